/- The document's disk in memory; what its sector and New answer. -/
import Derived.Test.YtgmmgklcndnehaaDoorGzAE
import Derived.Test.YtgmmgklcndnehaaDoorGzAC
namespace Go.Proofs.YtgmmgklcndnehaaDoor
open Go.RowKit Go.Maps
set_option linter.unusedVariables false
set_option maxRecDepth 4000

theorem RowB.set {w : World} {g : Nat} {t : TypeId} {l : List Int} (h : RowB w g t l) (i : Nat) (x : Int) : RowB (w.setCell ⟨g, i, none⟩ (.int .u8 x)) g t (l.set i x) := by
  show (w.setCell ⟨g, i, none⟩ (.int .u8 x)).heap[g]? = _
  rw [heap_setCell_same w g i _ t _ h]
  simp [cellsB, List.map_set]

/-! ### rows of sectors, and of writes -/
/-- A sector's slice. -/
def secV (g : Nat) : Value := .slice (some ⟨g, 0, none⟩) 64 64
def cellsG (gs : List Nat) : List Value := gs.map secV
def RowG (w : World) (base : Nat) (a : Option Addr) (gs : List Nat) (cap : Nat) : Prop := w.ownsRow base 22 1 (.slice a gs.length cap) gs.length (cellsG gs)
def cellsQ : List (Nat × Nat) → List Value
  | [] => []
  | x :: r => .int .i64 (x.1 : Nat) :: secV x.2 :: cellsQ r
def RowQ (w : World) (base : Nat) (a : Option Addr) (qs : List (Nat × Nat)) (cap : Nat) : Prop := w.ownsRow base 94 2 (.slice a qs.length cap) qs.length (cellsQ qs)

theorem cellsQ_at : ∀ (qs : List (Nat × Nat)) (i : Nat) (h : i < qs.length), (cellsQ qs)[i * 2]? = some (.int .i64 (qs[i].1 : Nat)) ∧ (cellsQ qs)[i * 2 + 1]? = some (secV qs[i].2)
  | x :: l, 0, _ => by simp [cellsQ]
  | x :: l, i + 1, h => by
    have := cellsQ_at l i (by simpa using h)
    rw [show (i + 1) * 2 = i * 2 + 2 from by omega, show i * 2 + 2 + 1 = i * 2 + 1 + 2 from by omega]
    simpa [cellsQ] using this

theorem rowQ_nil (w : World) (base : Nat) : RowQ w base none [] 0 := World.ownsRow_nil _ _ _ _
theorem owns_keepK {w w' : World} {base n s : Nat} {e : TypeId} {v : Value} {xs : List Value} {K : Obj → Bool} (h : w.ownsRow base e s v n xs) (hk : ∀ cur, K (.cells cur e (0, 0)) = true) (he : ∀ (i : Nat) (o : Obj), w.heap[i]? = some o → K o = true → w'.heap[i]? = some o) : w'.ownsRow base e s v n xs := by
  obtain ⟨h0, h1 | ⟨g, c', cur, h1, hg, h2, h3⟩⟩ := h
  · exact ⟨h0, .inl h1⟩
  · exact ⟨h0, .inr ⟨g, c', cur, h1, hg, he g _ h2 (hk cur), h3⟩⟩
/-- The cell of a row, and that it may be written. -/
theorem RowG.cell {w : World} {base cap i : Nat} {a : Option Addr} {gs : List Nat} (h : RowG w base a gs cap) (hi : i < gs.length) : ∃ g, a = some ⟨g, 0, none⟩ ∧ base ≤ g ∧ gs.length ≤ cap ∧ (∃ cur, w.heap[g]? = some (.cells cur 22 (0, 0))) ∧ w.cell? ⟨g, i, none⟩ = some (secV gs[i]) ∧ w.frozen? ⟨g, i, none⟩ = false := by
  have h' := h
  obtain ⟨_, ⟨h1, h2⟩ | ⟨g, c', cur, h1, hg, h2, h3, _⟩⟩ := h
  · omega
  · cases h1
    refine ⟨g, rfl, hg, h3, ⟨cur, h2⟩, ?_, frozen_of_row w g i _ _ h2⟩
    have hc := World.ownsRow.cellAt h' i (by omega)
    rw [hc]
    simp [cellsG, hi]
theorem RowQ.cell {w : World} {base cap i : Nat} {a : Option Addr} {qs : List (Nat × Nat)} (h : RowQ w base a qs cap) (hi : i < qs.length) : ∃ g, a = some ⟨g, 0, none⟩ ∧ base ≤ g ∧ qs.length ≤ cap ∧ (∃ cur, w.heap[g]? = some (.cells cur 94 (0, 0))) ∧ w.cell? ⟨g, i * 2, none⟩ = some (.int .i64 (qs[i].1 : Nat)) ∧ w.cell? ⟨g, i * 2 + 1, none⟩ = some (secV qs[i].2) := by
  have h' := h
  obtain ⟨_, ⟨h1, h2⟩ | ⟨g, c', cur, h1, hg, h2, h3, _⟩⟩ := h
  · omega
  · cases h1
    obtain ⟨e0, e1⟩ := cellsQ_at qs i hi
    refine ⟨g, rfl, hg, h3, ⟨cur, h2⟩, ?_, ?_⟩
    · rw [World.ownsRow.cellAt h' (i * 2) (by omega)]; exact e0
    · rw [World.ownsRow.cellAt h' (i * 2 + 1) (by omega)]; exact e1

/-- A sector of a row is stored. -/
theorem RowG.set {w : World} {base cap i q : Nat} {g : Nat} {gs : List Nat} (h : RowG w base (some ⟨g, 0, none⟩) gs cap) (hi : i < gs.length) : RowG (w.setCell ⟨g, i, none⟩ (secV q)) base (some ⟨g, 0, none⟩) (gs.set i q) cap := by
  obtain ⟨h0, ⟨h1, h2⟩ | ⟨g', c', cur, h1, hg, h2, h3, h4, h5, h6⟩⟩ := h
  · cases h1
  · cases h1
    refine ⟨by simp [cellsG], .inr ⟨g, cap, cur.setIfInBounds i (secV q), by rw [List.length_set], hg, heap_setCell_same w g i cur _ _ h2, by rw [List.length_set]; exact h3, h4, by simpa using h5, ?_⟩⟩
    rw [List.length_set, Array.toList_setIfInBounds, List.take_set, h6]
    simp [cellsG, List.map_set]
end Go.Proofs.YtgmmgklcndnehaaDoor

/- The document's disk in memory: New. -/
namespace Go.Proofs.YtgmmgklcndnehaaDoor
open Go.RowKit Go.Maps
set_option linter.unusedVariables false
set_option maxRecDepth 4000

def rboxC (as0 : Option Addr) (n cs : Nat) (aw : Option Addr) (k cw : Nat) (d : Dk) : Array Value := #[.slice as0 n cs, .slice aw k cw, .int .i64 (max 0 d.left), .bool d.down, .int .i64 (d.ops : Nat)]

/-- The writes that are pending, and where their bytes lie. -/
def zipQ (p : List Wr) (hs : List Nat) : List (Nat × Nat) := (p.map (·.at)).zip hs
structure RefAt (w : World) (base br : Nat) (as0 : Option Addr) (cs : Nat) (gs : List Nat) (aw : Option Addr) (cw : Nat) (hs : List Nat) (ok : Nat → Prop) (d : Dk) : Prop where
  box : w.heap[br]? = some (.cells (rboxC as0 gs.length cs aw d.pend.length cw d) 91 (0, 0))
  sure : RowG w base as0 gs cs
  wait : RowQ w base aw (zipQ d.pend hs) cw
  gl : gs.length = d.n
  hl : hs.length = d.pend.length
  secs : ∀ i (h : i < gs.length), RowB w gs[i] 5 (d.sure i) ∧ ok gs[i]
  pends : ∀ k (h : k < hs.length) (h' : k < d.pend.length), RowB w hs[k] 5 d.pend[k].by ∧ ok hs[k]
  ge : base ≤ br

/-- A disk of the document's, from a base on; ok: where its sectors may lie. -/
def IsR (w : World) (base br : Nat) (ok : Nat → Prop) (d : Dk) : Prop := ∃ as0 cs gs aw cw hs, RefAt w base br as0 cs gs aw cw hs ok d ∧ DkOk d

theorem IsR.ok' {w : World} {base br : Nat} {ok : Nat → Prop} {d : Dk} (h : IsR w base br ok d) : DkOk d := by obtain ⟨_, _, _, _, _, _, _, h⟩ := h; exact h

/-- The document's disk stays while others are written. -/
theorem RefAt.same {w w' : World} {base br cs cw : Nat} {as0 aw : Option Addr} {gs hs : List Nat} {ok : Nat → Prop} {d : Dk} (h : RefAt w base br as0 cs gs aw cw hs ok d)
    (he : ∀ (i : Nat) (o : Obj), w.heap[i]? = some o → KR o = true → w'.heap[i]? = some o) (hs' : ∀ g l, RowB w g 5 l → ok g → RowB w' g 5 l) : RefAt w' base br as0 cs gs aw cw hs ok d :=
  ⟨he _ _ h.box rfl, owns_keepK h.sure (fun _ => rfl) he, owns_keepK h.wait (fun _ => rfl) he, h.gl, h.hl, fun i hi => ⟨hs' _ _ (h.secs i hi).1 (h.secs i hi).2, (h.secs i hi).2⟩, fun k hk hk' => ⟨hs' _ _ (h.pends k hk hk').1 (h.pends k hk hk').2, (h.pends k hk hk').2⟩, h.ge⟩
theorem IsR.same {w w' : World} {base br : Nat} {ok : Nat → Prop} {d : Dk} (h : IsR w base br ok d)
    (he : ∀ (i : Nat) (o : Obj), w.heap[i]? = some o → KR o = true → w'.heap[i]? = some o) (hs' : ∀ g l, RowB w g 5 l → ok g → RowB w' g 5 l) : IsR w' base br ok d := by
  obtain ⟨a, b, c, d', e, f, h, r⟩ := h; exact ⟨a, b, c, d', e, f, h.same he hs', r⟩
theorem IsR.keep {w w' : World} {base br : Nat} {ok : Nat → Prop} {d : Dk} (h : IsR w base br ok d) (hb : Below w.heap.size w w') : IsR w' base br ok d :=
  h.same (fun i o ho _ => by rw [hb.block i (Array.getElem?_eq_some_iff.1 ho).1]; exact ho) (fun g l hr _ => hr.keep hb)
theorem IsR.turn {w w' : World} {base base' br : Nat} {ok : Nat → Prop} {d : Dk} (h : IsR w base br ok d) (ht : Turn base' KC w w') : IsR w' base br ok d :=
  h.same (fun i o ho hk => ht.block i o ho (.inr (by cases o <;> simp_all [KR, KC]; rcases hk with (rfl | rfl) | rfl <;> decide))) (fun g l hr _ => hr.turn ht rfl)
theorem IsR.drew {w : World} {base br : Nat} {ok : Nat → Prop} {d : Dk} (h : IsR w base br ok d) : IsR w.drew base br ok d := h.same (fun _ _ ho _ => ho) (fun _ _ hr _ => hr)
theorem IsR.drewN {w : World} {base br : Nat} {ok : Nat → Prop} {d : Dk} (h : IsR w base br ok d) (m : Nat) : IsR (w.drewN m) base br ok d := h.same (fun _ _ ho _ => ho) (fun _ _ hr _ => hr)
theorem IsR.mono {w : World} {base br : Nat} {ok ok' : Nat → Prop} {d : Dk} (h : IsR w base br ok d) (hk : ∀ g, g < w.heap.size → ok g → ok' g) : IsR w base br ok' d := by
  obtain ⟨a, b, c, d', e, f, h, r⟩ := h
  exact ⟨a, b, c, d', e, f, ⟨h.box, h.sure, h.wait, h.gl, h.hl, fun i hi => ⟨(h.secs i hi).1, hk _ (h.secs i hi).1.lt (h.secs i hi).2⟩, fun k hk' hk'' => ⟨(h.pends k hk' hk'').1, hk _ (h.pends k hk' hk'').1.lt (h.pends k hk' hk'').2⟩, h.ge⟩, r⟩
/-- Under way: so many sectors are there. -/
structure Making (w wr : World) (k : Nat) (as0 : Option Addr) (cs : Nat) (gs : List Nat) : Prop where
  len : gs.length = k
  box : wr.heap[w.heap.size]? = some (.cells (rboxC as0 gs.length cs none 0 0 (newD 0)) 91 (0, 0))
  sure : RowG wr w.heap.size as0 gs cs
  secs : ∀ g ∈ gs, RowB wr g 5 zeros ∧ w.heap.size ≤ g
  below : Below w.heap.size w wr

theorem Making.done {w wr : World} {n cs base : Nat} {as0 : Option Addr} {gs : List Nat} {ok : Nat → Prop} (h : Making w wr n as0 cs gs) (hn : n ≤ 65536) (hb : base ≤ w.heap.size) (hok : ∀ g, w.heap.size ≤ g → ok g) : IsR wr base w.heap.size ok (newD n) := by
  refine ⟨as0, cs, gs, none, 0, [], ⟨h.box, ?_, rowQ_nil _ _, h.len, rfl, fun i hi => ⟨(h.secs _ (List.getElem_mem hi)).1, hok _ (h.secs _ (List.getElem_mem hi)).2⟩, fun k hk => by (simp at hk), hb⟩, newD_ok hn⟩
  obtain ⟨h0, h1 | ⟨g, c', cur, h1, hg, h2⟩⟩ := h.sure
  · exact ⟨h0, .inl h1⟩
  · exact ⟨h0, .inr ⟨g, c', cur, h1, by omega, h2⟩⟩

end Go.Proofs.YtgmmgklcndnehaaDoor

/- What the document's Arm, fails and Read answer. -/
namespace Go.Proofs.YtgmmgklcndnehaaDoor
open Go.RowKit Go.Maps
set_option linter.unusedVariables false
set_option maxRecDepth 4000

theorem RefAt.cell {w : World} {base br cs cw : Nat} {as0 aw : Option Addr} {gs hs : List Nat} {ok : Nat → Prop} {d : Dk} (h : RefAt w base br as0 cs gs aw cw hs ok d) (j : Nat) : w.cell? ⟨br, j, none⟩ = (rboxC as0 gs.length cs aw d.pend.length cw d)[j]? := cell_of_row w br j _ _ _ h.box
theorem RefAt.thawed {w : World} {base br cs cw : Nat} {as0 aw : Option Addr} {gs hs : List Nat} {ok : Nat → Prop} {d : Dk} (h : RefAt w base br as0 cs gs aw cw hs ok d) (j : Nat) : w.frozen? ⟨br, j, none⟩ = false := frozen_of_row w br j _ _ h.box

theorem owns_else {w w' : World} {base n s br : Nat} {e : TypeId} {v : Value} {xs : List Value} {cs : Array Value} {t : TypeId} (h : w.ownsRow base e s v n xs) (hb : w.heap[br]? = some (.cells cs t (0, 0))) (hte : t ≠ e) (he : ∀ i, i ≠ br → w'.heap[i]? = w.heap[i]?) : w'.ownsRow base e s v n xs := by
  obtain ⟨h0, h1 | ⟨g, c', cur, h1, hg, h2, h3⟩⟩ := h
  · exact ⟨h0, .inl h1⟩
  · exact ⟨h0, .inr ⟨g, c', cur, h1, hg, by rw [he g (fun e => by subst e; rw [hb] at h2; simp at h2; exact hte h2.2)]; exact h2, h3⟩⟩
theorem RowB.else' {w w' : World} {g br : Nat} {t t' : TypeId} {l : List Int} {cs : Array Value} (h : RowB w g t l) (hb : w.heap[br]? = some (.cells cs t' (0, 0))) (hte : t' ≠ t) (he : ∀ i, i ≠ br → w'.heap[i]? = w.heap[i]?) : RowB w' g t l := by
  show w'.heap[g]? = _
  rw [he g (fun e => by subst e; rw [show w.heap[g]? = _ from h] at hb; simp at hb; exact hte hb.2.symm)]
  exact h

theorem IsR.field {w w' : World} {base br : Nat} {ok : Nat → Prop} {d d' : Dk} (h : IsR w base br ok d) (hp : d'.pend = d.pend) (hn : d'.n = d.n) (hs : d'.sure = d.sure) (hok : DkOk d')
    (hb : ∀ as0 n cs aw k cw, w.heap[br]? = some (.cells (rboxC as0 n cs aw k cw d) 91 (0, 0)) → w'.heap[br]? = some (.cells (rboxC as0 n cs aw k cw d') 91 (0, 0))) (he : ∀ i, i ≠ br → w'.heap[i]? = w.heap[i]?) : IsR w' base br ok d' := by
  obtain ⟨as0, cs, gs, aw, cw, hss, h, _⟩ := h
  refine ⟨as0, cs, gs, aw, cw, hss, ⟨?_, owns_else h.sure h.box (by decide) he, ?_, h.gl.trans hn.symm, by rw [hp]; exact h.hl, fun i hi => ?_, fun k hk hk' => ?_, h.ge⟩, hok⟩
  · rw [hp]; exact hb _ _ _ _ _ _ h.box
  · rw [hp]; exact owns_else h.wait h.box (by decide) he
  · rw [hs]; exact ⟨(h.secs i hi).1.else' h.box (by decide) he, (h.secs i hi).2⟩
  · have hk2 : k < d.pend.length := by rw [← hp]; exact hk'
    have := h.pends k hk hk2
    simp only [hp]
    exact ⟨this.1.else' h.box (by decide) he, this.2⟩
theorem ret_bool {a b : Bool} (h : a = b) : Ending.returned (.bool a) = .returned (.bool b) := by rw [h]

end Go.Proofs.YtgmmgklcndnehaaDoor
