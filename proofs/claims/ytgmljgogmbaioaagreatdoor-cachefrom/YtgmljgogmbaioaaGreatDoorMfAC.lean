/- The document's cache in memory. -/
import Derived.Test.YtgmljgogmbaioaaGreatDoorKcAC
import Derived.Test.YtgmljgogmbaioaaGreatDoorSpBW
namespace Go.Proofs.YtgmljgogmbaioaaGreatDoor
open Go.RowKit
set_option linter.unusedVariables false
set_option maxRecDepth 4000

/-- A span of the document's cache, as cells; its states lie in the block g. -/
def mcs (s : Sg) (g : Nat) : List Value := [.int .i64 (s.pg : Nat), .int .i64 (s.cl : Nat), .int .i64 (s.bts : Nat), .slice (some ⟨g, 0, none⟩) s.st.length s.st.length]
def cellsM : List Sg → List Nat → List Value
  | s :: m, g :: gs => mcs s g ++ cellsM m gs
  | _, _ => []
theorem cellsM_len : ∀ (m : List Sg) (gs : List Nat), gs.length = m.length → (cellsM m gs).length = m.length * 4
  | [], [], _ => rfl
  | s :: m, g :: gs, h => by simp [cellsM, mcs, cellsM_len m gs (by simpa using h)]; omega
theorem cellsM_append : ∀ (m m' : List Sg) (gs gs' : List Nat), gs.length = m.length → cellsM (m ++ m') (gs ++ gs') = cellsM m gs ++ cellsM m' gs'
  | [], _, [], _, _ => rfl
  | s :: m, m', g :: gs, gs', h => by simp [cellsM, cellsM_append m m' gs gs' (by simpa using h)]
theorem cellsM_one : ∀ (m : List Sg) (gs : List Nat), ∀ v ∈ cellsM m gs, v.oneCell' = true
  | [], _, v, hv => by simp [cellsM] at hv
  | s :: m, [], v, hv => by simp [cellsM] at hv
  | s :: m, g :: gs, v, hv => by
    rw [cellsM, List.mem_append] at hv
    rcases hv with hv | hv
    · simp [mcs] at hv
      rcases hv with rfl | rfl | rfl | rfl <;> rfl
    · exact cellsM_one m gs v hv
theorem cellsM_at : ∀ (m : List Sg) (gs : List Nat) (i : Nat) (h : i < m.length) (h' : i < gs.length), (cellsM m gs)[i * 4]? = some (.int .i64 (m[i].pg : Nat)) ∧ (cellsM m gs)[i * 4 + 1]? = some (.int .i64 (m[i].cl : Nat)) ∧ (cellsM m gs)[i * 4 + 2]? = some (.int .i64 (m[i].bts : Nat)) ∧ (cellsM m gs)[i * 4 + 3]? = some (.slice (some ⟨gs[i], 0, none⟩) m[i].st.length m[i].st.length)
  | s :: m, g :: gs, 0, _, _ => by simp [cellsM, mcs]
  | s :: m, g :: gs, i + 1, h, h' => by
    have := cellsM_at m gs i (by simpa using h) (by simpa using h')
    rw [show (i + 1) * 4 = i * 4 + 4 from by omega, show i * 4 + 4 + 1 = i * 4 + 1 + 4 from by omega, show i * 4 + 4 + 2 = i * 4 + 2 + 4 from by omega, show i * 4 + 4 + 3 = i * 4 + 3 + 4 from by omega]
    simpa [cellsM, mcs] using this
theorem cellsM_st : ∀ (m : List Sg) (gs : List Nat) (i : Nat) (h : i < m.length) (st : List Nat), st.length = m[i].st.length → cellsM (m.set i { m[i] with st := st }) gs = cellsM m gs
  | s :: m, [], 0, h, st, _ => by simp [cellsM]
  | s :: m, [], i + 1, h, st, _ => by simp [cellsM]
  | s :: m, g :: gs, 0, h, st, e => by simp [cellsM, mcs] at e ⊢; exact e
  | s :: m, g :: gs, i + 1, h, st, e => by simp [cellsM]; exact cellsM_st m gs i (by simpa using h) st (by simpa using e)

/-- The document's cache: its box rb, its row of spans, their states in the blocks gs. M: to which part a block belongs. -/
structure Rm (w : World) (M : Nat → Nat) (rb : Nat) (a : Option Addr) (cap : Nat) (gs : List Nat) (P W : Nat) (m : List Sg) : Prop where
  m0 : M 0 = 0
  m1 : M 1 = 0
  box : w.heap[rb]? = some (.cells #[.int .i64 (P : Nat), .int .i64 (W : Nat), .slice a m.length cap] 67 (0, 0))
  lb : M rb = 1
  row : w.ownsRow 0 75 4 (.slice a m.length cap) m.length (cellsM m gs)
  lr : ∀ g, ob a = some g → M g = 2
  glen : gs.length = m.length
  st : ∀ i (h : i < m.length) (h' : i < gs.length), w.heap[gs[i]]? = some (.cells (m[i].st.map numV).toArray 3 (0, 0)) ∧ M gs[i] = 3 + m[i].pg
def Rf (w : World) (M : Nat → Nat) (rb P W : Nat) (m : List Sg) : Prop := ∃ a cap gs, Rm w M rb a cap gs P W m
theorem Rm.same {w w' : World} {M M' : Nat → Nat} {rb : Nat} {a : Option Addr} {cap : Nat} {gs : List Nat} {P W : Nat} {m : List Sg} (h : Rm w M rb a cap gs P W m) (hM : Ext w M M') (h2 : 2 ≤ w.heap.size) (he : ∀ (k : Nat) (o : Obj), w.heap[k]? = some o → M k ≠ 0 → w'.heap[k]? = some o) : Rm w' M' rb a cap gs P W m := by
  have hg : ∀ g, ob a = some g → M g = 2 := h.lr
  refine ⟨by rw [hM 0 (by omega)]; exact h.m0, by rw [hM 1 (by omega)]; exact h.m1, he _ _ h.box (by rw [h.lb]; decide), by rw [hM _ (hlt h.box)]; exact h.lb, ?_, ?_, h.glen, fun i hi hi' => ?_⟩
  · obtain ⟨h0, h1 | ⟨g, c', cur, h1, hb, h3, h4⟩⟩ := h.row
    · exact ⟨h0, .inl h1⟩
    · exact ⟨h0, .inr ⟨g, c', cur, h1, hb, he g _ h3 (by rw [hg g (by cases h1; rfl)]; decide), h4⟩⟩
  · intro g hga
    obtain ⟨h0, ⟨h1, _⟩ | ⟨g', c', cur, h1, hb, h3, h4⟩⟩ := h.row
    · injection h1 with e1; subst e1; cases hga
    · cases h1; cases hga; rw [hM _ (hlt h3)]; exact hg _ rfl
  · obtain ⟨k1, k2⟩ := h.st i hi hi'
    exact ⟨he _ _ k1 (by rw [k2]; omega), by rw [hM _ (hlt k1)]; exact k2⟩
theorem Rm.keep {w w' : World} {M M' : Nat → Nat} {rb : Nat} {a : Option Addr} {cap : Nat} {gs : List Nat} {P W : Nat} {m : List Sg} (h : Rm w M rb a cap gs P W m) (hM : Ext w M M') (h2 : 2 ≤ w.heap.size) (hb : Below w.heap.size w w') : Rm w' M' rb a cap gs P W m :=
  h.same hM h2 (fun k o ho _ => by rw [hb.block k (hlt ho)]; exact ho)
theorem Rf.same {w w' : World} {M M' : Nat → Nat} {rb P W : Nat} {m : List Sg} (h : Rf w M rb P W m) (hM : Ext w M M') (h2 : 2 ≤ w.heap.size) (he : ∀ (k : Nat) (o : Obj), w.heap[k]? = some o → M k ≠ 0 → w'.heap[k]? = some o) : Rf w' M' rb P W m := by
  obtain ⟨a, cap, gs, h⟩ := h; exact ⟨a, cap, gs, h.same hM h2 he⟩
theorem Rm.box0 {w : World} {M : Nat → Nat} {rb : Nat} {a : Option Addr} {cap : Nat} {gs : List Nat} {P W : Nat} {m : List Sg} (h : Rm w M rb a cap gs P W m) : w.cell? ⟨rb, 0, none⟩ = some (.int .i64 (P : Nat)) := cell_of_row _ _ 0 _ _ _ h.box
theorem Rm.box1 {w : World} {M : Nat → Nat} {rb : Nat} {a : Option Addr} {cap : Nat} {gs : List Nat} {P W : Nat} {m : List Sg} (h : Rm w M rb a cap gs P W m) : w.cell? ⟨rb, 1, none⟩ = some (.int .i64 (W : Nat)) := cell_of_row _ _ 1 _ _ _ h.box
theorem Rm.box2 {w : World} {M : Nat → Nat} {rb : Nat} {a : Option Addr} {cap : Nat} {gs : List Nat} {P W : Nat} {m : List Sg} (h : Rm w M rb a cap gs P W m) : w.cell? ⟨rb, 2, none⟩ = some (.slice a m.length cap) := cell_of_row _ _ 2 _ _ _ h.box
/-- The span i: where it lies. -/
theorem Rm.at {w : World} {M : Nat → Nat} {rb : Nat} {a : Option Addr} {cap : Nat} {gs : List Nat} {P W : Nat} {m : List Sg} (h : Rm w M rb a cap gs P W m) (i : Nat) (hi : i < m.length) : ∃ g q, a = some ⟨g, 0, none⟩ ∧ M g = 2 ∧ g < w.heap.size ∧ gs[i]? = some q ∧ w.cell? ⟨g, i * 4, none⟩ = some (.int .i64 (m[i].pg : Nat)) ∧ w.cell? ⟨g, i * 4 + 1, none⟩ = some (.int .i64 (m[i].cl : Nat)) ∧ w.cell? ⟨g, i * 4 + 2, none⟩ = some (.int .i64 (m[i].bts : Nat)) ∧ w.cell? ⟨g, i * 4 + 3, none⟩ = some (.slice (some ⟨q, 0, none⟩) m[i].st.length m[i].st.length) ∧ w.heap[q]? = some (.cells (m[i].st.map numV).toArray 3 (0, 0)) ∧ M q = 3 + m[i].pg := by
  have hg : i < gs.length := by rw [h.glen]; exact hi
  obtain ⟨q0, q1, q2, q3⟩ := cellsM_at m gs i hi hg
  obtain ⟨k1, k2⟩ := h.st i hi hg
  have hr := h.row
  have hl := cellsM_len m gs h.glen
  obtain ⟨_, ⟨e1, e2⟩ | ⟨g, c', cur, e1, hb, h3, _⟩⟩ := h.row
  · omega
  · cases e1
    refine ⟨g, gs[i], rfl, h.lr g rfl, hlt h3, List.getElem?_eq_getElem hg, ?_, ?_, ?_, ?_, k1, k2⟩
    · rw [World.ownsRow.cellAt hr (i * 4) (by omega)]; exact q0
    · rw [World.ownsRow.cellAt hr (i * 4 + 1) (by omega)]; exact q1
    · rw [World.ownsRow.cellAt hr (i * 4 + 2) (by omega)]; exact q2
    · rw [World.ownsRow.cellAt hr (i * 4 + 3) (by omega)]; exact q3
theorem st_cell {w : World} {q : Nat} {st : List Nat} (h : w.heap[q]? = some (.cells (st.map numV).toArray 3 (0, 0))) (j : Nat) (hj : j < st.length) : w.cell? ⟨q, j, none⟩ = some (.int .i64 (st[j] : Nat)) := by
  rw [cell_of_row _ _ _ _ _ _ h]
  simp [numV, hj]
theorem Fit.pgs {W P : Nat} : ∀ {m : List Sg} {a : Nat}, Fit W P a m → (m.map Sg.pg).Pairwise (· < ·) ∧ ∀ x ∈ m.map Sg.pg, a ≤ x
  | [], _, _ => ⟨List.Pairwise.nil, by simp⟩
  | s :: l, a, h => by
    obtain ⟨h1, h2, h3⟩ := h
    obtain ⟨k1, k2⟩ := Fit.pgs h3
    have f := h2.facts
    refine ⟨by rw [List.map_cons, List.pairwise_cons]; exact ⟨fun x hx => by have := k2 x hx; omega, k1⟩, fun x hx => ?_⟩
    rw [List.map_cons, List.mem_cons] at hx
    rcases hx with rfl | hx
    · exact h1
    · have := k2 x hx; omega
/-- A state turned. -/
theorem Rm.put {w : World} {M : Nat → Nat} {rb : Nat} {a : Option Addr} {cap : Nat} {gs : List Nat} {P W : Nat} {A B : List Sg} {s : Sg} (h : Rm w M rb a cap gs P W (A ++ s :: B)) (hf : ((A ++ s :: B).map Sg.pg).Pairwise (· < ·)) (j v q : Nat) (hj : j < s.st.length) (hq : gs[A.length]? = some q) : Rm (w.setCell ⟨q, j, none⟩ (.int .i64 (v : Nat))) M rb a cap gs P W (A ++ { s with st := s.st.set j v } :: B) ∧ Only q w (w.setCell ⟨q, j, none⟩ (.int .i64 (v : Nat))) ∧ M q = 3 + s.pg := by
  have on : Only q w (w.setCell ⟨q, j, none⟩ (.int .i64 (v : Nat))) := Only.set q j _ w
  obtain ⟨m, hm⟩ : ∃ m, A ++ s :: B = m := ⟨_, rfl⟩
  obtain ⟨i, hAi⟩ : ∃ i, A.length = i := ⟨_, rfl⟩
  have hi : i < m.length := by rw [← hm, ← hAi]; simp
  have hmi : m[i] = s := by subst hm; subst hAi; simp
  have hms : A ++ { s with st := s.st.set j v } :: B = m.set i { m[i] with st := m[i].st.set j v } := by rw [hmi]; subst hm; subst hAi; simp
  rw [hms]
  rw [hm] at h hf
  rw [hAi] at hq
  rw [← hmi] at hj ⊢
  have hgi : i < gs.length := by rw [h.glen]; exact hi
  obtain rfl : gs[i] = q := by rw [List.getElem?_eq_getElem hgi] at hq; exact Option.some.inj hq
  obtain ⟨k1, k2⟩ := h.st i hi hgi
  have ne : ∀ k, M k ≠ 3 + m[i].pg → k ≠ gs[i] := fun k hk e => hk (by rw [e]; exact k2)
  refine ⟨⟨h.m0, h.m1, ?_, h.lb, ?_, h.lr, by rw [List.length_set]; exact h.glen, fun x hx hx' => ?_⟩, on, k2⟩
  · rw [List.length_set, on.block _ (ne _ (by rw [h.lb]; omega))]; exact h.box
  · rw [List.length_set, cellsM_st m gs i hi _ (by simp)]
    obtain ⟨h0, h1 | ⟨g, c', cur, h1, hb, h3, h4⟩⟩ := h.row
    · exact ⟨h0, .inl h1⟩
    · exact ⟨h0, .inr ⟨g, c', cur, h1, hb, by rw [on.block _ (ne _ (by rw [h.lr g (by cases h1; rfl)]; omega))]; exact h3, h4⟩⟩
  · rw [List.length_set] at hx
    rw [List.getElem_set]
    by_cases e : i = x
    · subst e
      simp only [if_true]
      refine ⟨?_, k2⟩
      rw [heap_put k1]
      congr 2
      simp [numV]
    · simp only [if_neg e]
      obtain ⟨j1, j2⟩ := h.st x hx hx'
      refine ⟨?_, j2⟩
      rw [on.block _ (ne _ ?_)]
      · exact j1
      · rw [j2]
        have hp := List.pairwise_iff_getElem.1 hf
        rcases Nat.lt_or_gt_of_ne e with k | k
        · have := hp i x (by simpa using hi) (by simpa using hx) k
          simp at this; omega
        · have := hp x i (by simpa using hx) (by simpa using hi) k
          simp at this; omega
/-- Where a slot of the document's begins. -/
theorem at_i (s : Sg) (j : Nat) : ((s.at j : Nat) : Int) = 256 * (s.pg : Int) + (j : Int) * (s.z : Int) := by unfold Sg.at; rw [Int.natCast_add, Int.natCast_mul, Int.natCast_mul]; rfl
end Go.Proofs.YtgmljgogmbaioaaGreatDoor

/- The document's cache: pages and bytes of a span, the slot that begins at a place, what a worker keeps. -/
namespace Go.Proofs.YtgmljgogmbaioaaGreatDoor
open Go.RowKit
set_option linter.unusedVariables false
set_option maxRecDepth 4000

theorem rpages_any (c s : Int) (w : World) (g : Nat) (hg : pgsN c s = g) :
    Calls Tryz.prog 67 #[.int .i64 c, .int .i64 s] w fun e w' => e = .returned (.int .i64 (g : Nat)) ∧ w = w' := by
  subst hg
  by_cases hc : c = 7
  · subst hc
    rw [show pgsN 7 s = pagesN s from rfl]
    go_enter Tryz.func67, Tryz.ntmps67
    go_wp2_with (go_at_call 29; refine (qpages_any s _).mono ?_; rintro e w' ⟨rfl, rfl⟩)
    go_ret
    exact ⟨rfl, rfl⟩
  · have hq : (c == 7) = false := beq_eq_false_iff_ne.2 hc
    have E : Hid (pgsN c s = 1) := by show _ = _; unfold pgsN; rw [if_neg hc]
    rw [E.out]
    clear hc
    go_enter Tryz.func67, Tryz.ntmps67
    go_wp2
    go_ret
    exact ⟨rfl, rfl⟩
/-- A span of the document's, laid into a box. -/
def mbox (w : World) (p c b : Nat) (q n : Nat) : World := w.alloc (.cells #[.int .i64 (p : Nat), .int .i64 (c : Nat), .int .i64 (b : Nat), .slice (some ⟨q, 0, none⟩) n n] 75)
theorem mbox_below (w : World) (p c b q n : Nat) : Below w.heap.size w (mbox w p c b q n) := (Below.refl _ w).alloc (Nat.le_refl _) _
/-- A box of a span. -/
def Bx4 (w : World) (g p c b q n : Nat) : Prop := w.heap[g]? = some (.cells #[.int .i64 (p : Nat), .int .i64 (c : Nat), .int .i64 (b : Nat), .slice (some ⟨q, 0, none⟩) n n] 75 (0, 0))
theorem mbox_4 (w : World) (p c b q n : Nat) : Bx4 (mbox w p c b q n) w.heap.size p c b q n := Go.heap_alloc_new w _
theorem Bx4.keep {w w' : World} {g p c b q n : Nat} (h : Bx4 w g p c b q n) (hb : Below w.heap.size w w') : Bx4 w' g p c b q n := bblock hb h
theorem Bx4.cells {w : World} {g p c b q n : Nat} (h : Bx4 w g p c b q n) : w.cell? ⟨g, 0, none⟩ = some (.int .i64 (p : Nat)) ∧ w.cell? ⟨g, 1, none⟩ = some (.int .i64 (c : Nat)) ∧ w.cell? ⟨g, 2, none⟩ = some (.int .i64 (b : Nat)) ∧ w.cell? ⟨g, 3, none⟩ = some (.slice (some ⟨q, 0, none⟩) n n) :=
  ⟨cell_of_row _ _ 0 _ _ _ h, cell_of_row _ _ 1 _ _ _ h, cell_of_row _ _ 2 _ _ _ h, cell_of_row _ _ 3 _ _ _ h⟩
/-- A row of numbers of one's own is no box. -/
theorem Bx4.own {w w' : World} {g p c b q n B : Nat} {al : Option Addr} {l : List Int} {cl : Nat} (h : Bx4 w g p c b q n) (ho : OwnsI w B al l cl) (u : Tu (fun k => ob al = some k) w w') : Bx4 w' g p c b q n := by
  refine u.block g _ h (fun e => ?_)
  obtain ⟨_, ⟨h1, _⟩ | ⟨g', c', cur, h1, _, h2, _⟩⟩ := ho
  · injection h1 with e1; subst e1; cases e
  · cases h1; cases e
    unfold Bx4 at h
    rw [h2] at h
    simp at h

theorem mpages_any (p c b q n : Nat) (w : World) (k : Nat) (hk : pgsN (c : Int) (b : Int) = k) :
    Calls Tryz.prog 32 #[.agg #[.int .i64 (p : Nat), .int .i64 (c : Nat), .int .i64 (b : Nat), .slice (some ⟨q, 0, none⟩) n n]] w fun e w' => e = .returned (.int .i64 (k : Nat)) ∧ Below w.heap.size w w' := by
  have B : Hid (Below w.heap.size w (mbox w p c b q n)) := mbox_below w p c b q n
  have HK : Hid (pgsN (c : Int) (b : Int) = k) := hk
  clear hk
  go_enter Tryz.func32, Tryz.ntmps32
  go_wp2_with (go_at_call 67; refine (rpages_any (c : Int) (b : Int) _ k HK.out).mono ?_; rintro e w' ⟨rfl, rfl⟩)
  go_ret
  exact ⟨rfl, B.out⟩
theorem msize_any (p c b q n : Nat) (w : World) (z : Nat) (hz : szI (c : Int) (b : Int) = (z : Int)) :
    Calls Tryz.prog 76 #[.agg #[.int .i64 (p : Nat), .int .i64 (c : Nat), .int .i64 (b : Nat), .slice (some ⟨q, 0, none⟩) n n]] w fun e w' => e = .returned (.int .i64 (z : Nat)) ∧ Below w.heap.size w w' := by
  have B : Hid (Below w.heap.size w (mbox w p c b q n)) := mbox_below w p c b q n
  by_cases hc : c = 7
  · subst hc
    have hb : (b : Int) = (z : Int) := hz
    have hb' : b = z := by omega
    subst hb'
    clear hz hb
    go_enter Tryz.func76, Tryz.ntmps76
    go_wp2
    go_ret
    exact ⟨rfl, B.out⟩
  · have hq : ((c : Int) == 7) = false := beq_eq_false_iff_ne.2 (by omega)
    have E : Hid (sizeI (c : Int) = (z : Int)) := by show _ = _; rw [← hz]; unfold szI; rw [if_neg (by omega)]
    clear hc hz
    go_enter Tryz.func76, Tryz.ntmps76
    go_wp2_with (go_at_call 63; refine (qsize_any (c : Int) _).mono ?_; rw [E.out]; rintro e w' ⟨rfl, rfl⟩)
    go_ret
    exact ⟨rfl, B.out⟩

/-- The slot that begins at a place. -/
def FindR (m : List Sg) (x r s : Int) : Prop :=
  (∃ k j : Nat, r = (k : Int) ∧ s = (j : Int) ∧ ∃ hk : k < m.length, j < m[k].st.length ∧ x = ((m[k].at j : Nat) : Int)) ∨ (r = -1 ∧ s = 0 ∧ ∀ k (hk : k < m.length) j, j < m[k].st.length → x ≠ ((m[k].at j : Nat) : Int))
set_option maxHeartbeats 2000000 in
theorem mfind_any (M : Nat → Nat) (rb P W : Nat) (m : List Sg) (x : Int) (w : World) (h : Rf w M rb P W m) (ho : Okc P W m) (h2 : 2 ≤ w.heap.size) (hx : -9223372036854775808 ≤ x ∧ x ≤ 9223372036854775807) :
    Calls Tryz.prog 70 #[.pointer (some ⟨rb, 0, none⟩), .int .i64 x] w fun e w' => ∃ r s, e = .returned (.tuple #[.int .i64 r, .int .i64 s]) ∧ FindR m x r s ∧ Below w.heap.size w w' := by
  obtain ⟨a, cap, gs, hR⟩ := h
  have HR : Hid (Rm w M rb a cap gs P W m) := hR
  have HO : Hid (Okc P W m) := ho
  have H2 : Hid (2 ≤ w.heap.size) := h2
  have b2 := hR.box2
  have hml := ho.fit.len
  have hP := ho.p1
  obtain ⟨n, hn⟩ : ∃ n, m.length = n := ⟨_, rfl⟩
  have HN : Hid (m.length = n) := hn
  rw [hn] at b2 hml
  clear hR ho hn h2
  go_enter Tryz.func70, Tryz.ntmps70
  go_wp2_with fail
  go_loopw [14] (fun iv wr => ∃ k : Nat, k ≤ n ∧ iv = .int .i64 (k : Nat) ∧ (∀ k' (hk : k' < m.length) j, k' < k → j < m[k'].st.length → x ≠ ((m[k'].at j : Nat) : Int)) ∧ Below w.heap.size w wr) (fun iv _ => n - lenW iv)
  case atStart => exact ⟨0, Nat.zero_le _, rfl, fun k' _ _ h => by omega, Below.refl _ _⟩
  case round =>
    obtain ⟨k, hk, rfl, hNo, hB⟩ := hrel
    rename World => wr
    have NO : Hid (∀ k' (hk : k' < m.length) j, k' < k → j < m[k'].st.length → x ≠ ((m[k'].at j : Nat) : Int)) := hNo
    have HB : Hid (Below w.heap.size w wr) := hB
    clear hNo hB
    by_cases hkn : k < n
    · have hkm : k < m.length := by rw [HN.out]; exact hkn
      obtain ⟨g, q, rfl, hg2, hgl, hq, n0, n1, n2, n3, cq, hMq⟩ := HR.out.at k hkm
      have c0 := bcell HB.out n0
      have c1 := bcell HB.out n1
      have c2 := bcell HB.out n2
      have c3 := bcell HB.out n3
      clear n0 n1 n2 n3
      have OK := (HO.out.fit.ok _ (List.getElem_mem hkm)).1
      have TOP := (HO.out.fit.ok _ (List.getElem_mem hkm)).2.2
      obtain ⟨s, hs⟩ : ∃ s, m[k] = s := ⟨_, rfl⟩
      have HS : Hid (m[k] = s) := hs
      have KM : Hid (k < m.length) := hkm
      rw [hs] at c0 c1 c2 c3 OK TOP
      obtain ⟨f1, f2, f3, f4, f5, f6, f7, f8⟩ := OK.facts
      obtain ⟨z, hz⟩ : ∃ z, s.z = z := ⟨_, rfl⟩
      have HZ : Hid (szI (s.cl : Int) (s.bts : Int) = (z : Int)) := by rw [← hz]; exact f8
      have AT : Hid (∀ j : Nat, ((s.at j : Nat) : Int) = 256 * (s.pg : Int) + (j : Int) * (z : Int)) := fun j => by rw [← hz]; exact at_i s j
      obtain ⟨p, hp⟩ : ∃ p, s.pg = p := ⟨_, rfl⟩
      obtain ⟨c, hc⟩ : ∃ c, s.cl = c := ⟨_, rfl⟩
      obtain ⟨b, hb⟩ : ∃ b, s.bts = b := ⟨_, rfl⟩
      obtain ⟨L, hL⟩ : ∃ L, s.st.length = L := ⟨_, rfl⟩
      have HLL : Hid (s.st.length = L) := hL
      rw [hp] at c0 AT TOP
      rw [hc] at c1 HZ
      rw [hb] at c2 HZ
      rw [hL] at c3 f2
      rw [hz] at f4
      have hpb : p ≤ 4096 := by omega
      have E4 : Hid (Bx4 (mbox wr p c b q L) wr.heap.size p c b q L) := mbox_4 wr p c b q L
      have EB : Hid (Below wr.heap.size wr (mbox wr p c b q L)) := mbox_below wr p c b q L
      have HE : Hid (wr.alloc (.cells #[.int .i64 (p : Nat), .int .i64 (c : Nat), .int .i64 (b : Nat), .slice (some ⟨q, 0, none⟩) L L] 75) = mbox wr p c b q L) := rfl
      obtain ⟨E, hE⟩ : ∃ E, mbox wr p c b q L = E := ⟨_, rfl⟩
      rw [hE] at E4 EB HE
      clear hs hz hp hc hb hL OK TOP f1 f3 f5 f6 f7 f8 hE cq hMq hg2 hq
      have k0 : (k : Int) < (n : Int) := by omega
      go_upto_region 4 with (fail)
      rw [HE.out]
      obtain ⟨e0, e1, e2, e3⟩ := E4.out.cells
      go_wp2_with fail
      go_loopw [22] (fun jv wz => ∃ j : Nat, j ≤ L ∧ jv = .int .i64 (j : Nat) ∧ (∀ j', j' < j → x ≠ ((s.at j' : Nat) : Int)) ∧ Below E.heap.size E wz) (fun jv _ => L - lenW jv)
      case atStart => exact ⟨0, Nat.zero_le _, rfl, fun j' h => by omega, Below.refl _ _⟩
      case round =>
        obtain ⟨j, hj, rfl, hNj, hBz⟩ := hrel
        rename World => wz
        have NJ : Hid (∀ j', j' < j → x ≠ ((s.at j' : Nat) : Int)) := hNj
        have BZ : Hid (Below E.heap.size E wz) := hBz
        obtain ⟨d0, d1, d2, d3⟩ := (E4.out.keep hBz).cells
        clear hNj hBz e0 e1 e2 e3
        by_cases hjL : j < L
        · have j0 : (j : Int) < (L : Int) := by omega
          have zz : 0 ≤ (j : Int) * (z : Int) ∧ (j : Int) * (z : Int) ≤ 65536 := ⟨Int.mul_nonneg (by omega) (by omega), by
            have : (j : Int) * (z : Int) ≤ 16 * 4096 := Int.mul_le_mul (by omega) (by omega) (by omega) (by omega)
            omega⟩
          have w1 : IntKind.i64.wrap (256 * (p : Int)) = 256 * (p : Int) := by rw [IntKind.wrap_i64]; omega
          have w2 : IntKind.i64.wrap ((j : Int) * (z : Int)) = (j : Int) * (z : Int) := by rw [IntKind.wrap_i64]; omega
          have w3 : IntKind.i64.wrap (256 * (p : Int) + (j : Int) * (z : Int)) = 256 * (p : Int) + (j : Int) * (z : Int) := by rw [IntKind.wrap_i64]; omega
          go_wp2_with fail
          go_region_held3 (fun w' => w'.cell? ⟨wr.heap.size, 0, none⟩ = some (.int .i64 (p : Nat)) ∧ w'.cell? ⟨wr.heap.size, 1, none⟩ = some (.int .i64 (c : Nat)) ∧ w'.cell? ⟨wr.heap.size, 2, none⟩ = some (.int .i64 (b : Nat)) ∧ w'.cell? ⟨wr.heap.size, 3, none⟩ = some (.slice (some ⟨q, 0, none⟩) L L)) (first | exact ⟨y0, y1, y2, y3⟩ | exact ⟨d0, d1, d2, d3⟩)
            ((go_at_call 76; refine (msize_any p c b q L _ z HZ.out).mono ?_; rintro e wy ⟨rfl, by0⟩; have BY : Hid (Below wz.heap.size wz wy) := Below.ofDrew by0; obtain ⟨y0, y1, y2, y3⟩ := ((E4.out.keep BZ.out).keep BY.out).cells; clear by0))
          have BB : Hid (Below w.heap.size w wy) := HB.out.trans ((EB.out.trans ((BZ.out.trans (BY.out.mono BZ.out.size)).mono EB.out.size)).mono HB.out.size)
          by_cases hxe : x = ((s.at j : Nat) : Int)
          · have FR : Hid (FindR m x (k : Int) (j : Int)) := .inl ⟨k, j, rfl, rfl, KM.out, by rw [HS.out, HLL.out]; exact hjL, by rw [HS.out]; exact hxe⟩
            have hq : (256 * (p : Int) + (j : Int) * (z : Int) == x) = true := by rw [hxe, AT.out j]; simp
            clear hxe
            go_wp2
            go_ret2
            exact ⟨_, _, rfl, FR.out, BB.out⟩
          · have hq : (256 * (p : Int) + (j : Int) * (z : Int) == x) = false := by rw [beq_eq_false_iff_ne, ← AT.out j]; exact fun e => hxe e.symm
            have HXE : Hid (¬ x = ((s.at j : Nat) : Int)) := hxe
            clear hxe
            go_wp2
            go_roundw
            case rel => exact ⟨j + 1, by omega, by congr 1, fun j' hj' => by
              by_cases e : j' = j
              · rw [e]; exact HXE.out
              · exact NJ.out j' (by omega), BZ.out.trans (BY.out.mono BZ.out.size)⟩
            case measure => simp [lenW]; omega
        · obtain rfl : j = L := by omega
          go_wp2
          go_roundw
          case rel => exact ⟨k + 1, by omega, by congr 1, fun k' hk' j' h1 h3 => by
              by_cases e : k' = k
              · subst e
                rw [HS.out] at h3 ⊢
                exact NJ.out j' (by rw [← HLL.out]; exact h3)
              · exact NO.out k' hk' j' (by omega) h3, HB.out.trans ((EB.out.trans (BZ.out.mono EB.out.size)).mono HB.out.size)⟩
          case measure => simp [lenW]; omega
    · obtain rfl : k = n := by omega
      have FR : Hid (FindR m x (-1) 0) := .inr ⟨rfl, rfl, fun k' hk' j' h3 => NO.out k' hk' j' (by rw [← HN.out]; exact hk') h3⟩
      go_wp2
      go_ret2
      exact ⟨_, _, rfl, FR.out, HB.out⟩
end Go.Proofs.YtgmljgogmbaioaaGreatDoor

/- The document's cache: what a worker keeps. -/
namespace Go.Proofs.YtgmljgogmbaioaaGreatDoor
open Go.RowKit
set_option linter.unusedVariables false
set_option maxRecDepth 4000

/-- A number appended to a row of one's own. -/
theorem appI_run (B : Nat) (w : World) (hB : B ≤ w.heap.size) (a : Option Addr) (l : List Int) (n cap : Nat) (h : OwnsI w B a l cap) (hn : l.length = n) (g : Nat) (x : Int) (c : Nat) (hq : w.cell? ⟨g, 0, none⟩ = some (.int .i64 x)) (hL : l.length ≤ 1000000) :
    ∃ a' cap' w', (Builtin.append_ #[34, 34] 34 #[.slice a n cap, .slice (some ⟨g, 0, none⟩) 1 c]).run Tryz.prog w = .ok (.slice a' (n + 1) cap') w' ∧ OwnsI w' B a' (l ++ [x]) cap' ∧ Tu (fun k => ob a = some k) w w' ∧ (ob a' = ob a ∨ ob a' = some w.heap.size) := by
  subst hn
  obtain ⟨i0, hi, hz0, hz2, hz3⟩ := info_parts Tryz.info3
  obtain ⟨v', w', hr, h2, h3, _, h4⟩ := run_append_own_at (P := Tryz.prog) w B 34 34 3 i0 _ 1 8 Tryz.underlying34 hi hz0 hz2 hz3 rfl (by decide) (.slice a l.length cap) l.length (l.map (Value.int .i64)) h ⟨g, 0, none⟩ 1 c [.int .i64 x] rfl (fun j u hj => by
      cases j with
      | zero => simp at hj; subst hj; rw [show (⟨g, 0, none⟩ : Addr).add 0 = ⟨g, 0, none⟩ from by simp [Addr.add]]; exact hq
      | succ j => simp at hj) (fun u hu => by simp at hu; subst hu; rfl) (by unfold maxLen; omega) (by omega) hB
  obtain ⟨a', cap', rfl⟩ := owns_formI h2
  rw [ob_own] at h3 h4
  rw [ob_own] at h4
  refine ⟨a', cap', w', hr, ?_, Tu.grown h3 (fun g hg => hg), h4⟩
  unfold OwnsI
  rw [List.length_append, List.map_append]
  exact h2
theorem OwnsI.ge {w : World} {B : Nat} {a : Option Addr} {l : List Int} {c : Nat} (h : OwnsI w B a l c) : ∀ g, ob a = some g → B ≤ g := fun g hg => own_geI h g (by rw [ob_own]; exact hg)

def keptU (v : Nat) (c : Int) : Nat → Nat → Bool := fun c' x => decide ((c' : Int) = c ∧ x = v + 2)
theorem keptU_eq {W P : Nat} {m : List Sg} (hf : Fit W P 0 m) (v : Nat) (hv : v < W) (c : Int) : (pl (keptU v c) m).map Int.ofNat = keptI W (v : Int) c m := by
  unfold keptI
  by_cases h : 0 ≤ (v : Int) ∧ (v : Int) < (W : Int) ∧ 0 ≤ c ∧ c < 7
  · rw [if_pos h]
    congr 1
    unfold keptM
    congr 1
    funext c' x
    unfold keptU keptQ
    congr 1
    apply propext
    rw [Int.toNat_natCast]
    constructor
    · rintro ⟨h1, h2⟩; exact ⟨by omega, h2⟩
    · rintro ⟨h1, h2⟩; exact ⟨by omega, h2⟩
  · rw [if_neg h]
    have : pl (keptU v c) m = [] := by
      rw [List.eq_nil_iff_forall_not_mem]
      intro a ha
      obtain ⟨z, c', x, h1, h2⟩ := (mem_pl _ _ _).1 ha
      have h2 := of_decide_eq_true h2
      have b := h1.bound hf
      obtain ⟨_, _, b3, b4, _, b6⟩ := b
      have : c' = 7 := by omega
      have := b4 this
      omega
    rw [this]; rfl

theorem pl_len_le (q : Nat → Nat → Bool) : ∀ (m : List Sg), (∀ s ∈ m, s.st.length ≤ 16) → (pl q m).length ≤ 16 * m.length
  | [], _ => by simp [pl]
  | s :: m, h => by
    have h1 := pl_len_le q m (fun t ht => h t (by simp [ht]))
    have h2 := h s (by simp)
    have h3 : (plS s (q s.cl) 0 s.st).length ≤ s.st.length := by rw [plS_len]; exact List.countP_le_length
    rw [pl, List.length_append, List.length_cons]
    omega
theorem pl_take_le {P W : Nat} {m : List Sg} (ho : Okc P W m) (q : Nat → Nat → Bool) (k : Nat) : (pl q (m.take k)).length ≤ 65536 := by
  have h1 := pl_len_le q (m.take k) (fun s hs => (ho.fit.ok s (List.mem_of_mem_take hs)).1.facts.2.1)
  have h2 : (m.take k).length ≤ m.length := by rw [List.length_take]; omega
  have h3 := ho.fit.len
  have h4 := ho.p1
  omega
set_option maxRecDepth 20000 in
set_option maxHeartbeats 4000000 in
theorem mkept_any (M : Nat → Nat) (rb P W : Nat) (m : List Sg) (v c : Int) (w : World) (h : Rf w M rb P W m) (ho : Okc P W m) (h2 : 2 ≤ w.heap.size) (l : List Int) (hl : keptI W v c m = l) :
    Calls Tryz.prog 44 #[.pointer (some ⟨rb, 0, none⟩), .int .i64 v, .int .i64 c] w fun e w' => ∃ a' c', e = .returned (.slice a' l.length c') ∧ OwnsI w' w.heap.size a' l c' ∧ Below w.heap.size w w' := by
  obtain ⟨a, cap, gs, hR⟩ := h
  have HR : Hid (Rm w M rb a cap gs P W m) := hR
  have HO : Hid (Okc P W m) := ho
  have H2 : Hid (2 ≤ w.heap.size) := h2
  have b1 := hR.box1
  have b2 := hR.box2
  have hml := ho.fit.len
  have hP := ho.p1
  have hW := ho.w1
  by_cases hv : 0 ≤ v ∧ v < (W : Int)
  · obtain ⟨u, rfl⟩ : ∃ u : Nat, v = u := ⟨v.toNat, by omega⟩
    have hu : u < W := by omega
    have hl' : (pl (keptU u c) m).map Int.ofNat = l := by rw [keptU_eq ho.fit u hu c]; exact hl
    have HL : Hid ((pl (keptU u c) m).map Int.ofNat = l) := hl'
    obtain ⟨n, hn⟩ : ∃ n, m.length = n := ⟨_, rfl⟩
    have HN : Hid (m.length = n) := hn
    rw [hn] at b2 hml
    have u0 : ¬ ((u : Int) < 0) := by omega
    have u1 : ¬ ((W : Int) ≤ (u : Int)) := by omega
    have LEN : Hid (∀ k, (pl (keptU u c) (m.take k)).length ≤ 65536) := fun k => pl_take_le ho _ k
    clear hR ho hn h2 hl hl' hv
    go_enter Tryz.func44, Tryz.ntmps44
    go_wp2_with fail
    go_loopw [7, 26] (fun lv iv wr => ∃ (k : Nat) (al : Option Addr) (cl : Nat), k ≤ n ∧ iv = .int .i64 (k : Nat) ∧ lv = .slice al (pl (keptU u c) (m.take k)).length cl ∧ OwnsI wr w.heap.size al ((pl (keptU u c) (m.take k)).map Int.ofNat) cl ∧ Below w.heap.size w wr) (fun _ iv _ => n - lenW iv)
    case atStart => exact ⟨0, none, 0, Nat.zero_le _, rfl, by simp [pl], by simp [pl]; exact ownsI_none _ _, Below.refl _ _⟩
    case round =>
      obtain ⟨k, al, cl, hk, rfl, rfl, hO, hB⟩ := hrel
      rename World => wr
      have HOW : Hid (OwnsI wr w.heap.size al ((pl (keptU u c) (m.take k)).map Int.ofNat) cl) := hO
      have HB : Hid (Below w.heap.size w wr) := hB
      clear hO hB
      by_cases hkn : k < n
      · have hkm : k < m.length := by rw [HN.out]; exact hkn
        obtain ⟨g, q, rfl, hg2, hgl, hq, n0, n1, n2, n3, cq, hMq⟩ := HR.out.at k hkm
        have c0 := bcell HB.out n0
        have c1 := bcell HB.out n1
        have c2 := bcell HB.out n2
        have c3 := bcell HB.out n3
        clear n0 n1 n2 n3
        have OK := (HO.out.fit.ok _ (List.getElem_mem hkm)).1
        have TOP := (HO.out.fit.ok _ (List.getElem_mem hkm)).2.2
        have SN := pl_snoc (keptU u c) m k hkm
        have LE1 := LEN.out (k + 1)
        rw [SN] at LE1
        obtain ⟨s, hs⟩ : ∃ s, m[k] = s := ⟨_, rfl⟩
        rw [hs] at c0 c1 c2 c3 cq OK TOP SN LE1
        obtain ⟨A, hA⟩ : ∃ A, pl (keptU u c) (m.take k) = A := ⟨_, rfl⟩
        rw [hA] at SN HOW LE1
        rw [hA]
        have HSN : Hid (pl (keptU u c) (m.take (k + 1)) = A ++ plS s (keptU u c s.cl) 0 s.st) := SN
        obtain ⟨f1, f2, f3, f4, f5, f6, f7, f8⟩ := OK.facts
        have SJ : Hid (∀ j (hj : j < s.st.length), plS s (keptU u c s.cl) 0 (s.st.take (j + 1)) = plS s (keptU u c s.cl) 0 (s.st.take j) ++ (if keptU u c s.cl s.st[j] = true then [s.at j] else [])) := fun j hj => plS_snoc s _ s.st j hj
        have PL : Hid (∀ j, (A ++ plS s (keptU u c s.cl) 0 (s.st.take j)).length ≤ 131072) := fun j => by
          have q1 : (plS s (keptU u c s.cl) 0 (s.st.take j)).length ≤ 16 := by rw [plS_len]; exact Nat.le_trans (List.countP_le_length) (by rw [List.length_take]; omega)
          show _ ≤ _
          rw [List.length_append] at LE1 ⊢
          omega
        obtain ⟨z, hz⟩ : ∃ z, s.z = z := ⟨_, rfl⟩
        have HZ : Hid (szI (s.cl : Int) (s.bts : Int) = (z : Int)) := by rw [← hz]; exact f8
        have AT : Hid (∀ j : Nat, ((s.at j : Nat) : Int) = 256 * (s.pg : Int) + (j : Int) * (z : Int)) := fun j => by rw [← hz]; exact at_i s j
        obtain ⟨p, hp⟩ : ∃ p, s.pg = p := ⟨_, rfl⟩
        obtain ⟨b, hb⟩ : ∃ b, s.bts = b := ⟨_, rfl⟩
        obtain ⟨d, hd⟩ : ∃ d, s.cl = d := ⟨_, rfl⟩
        obtain ⟨st, hst⟩ : ∃ st, s.st = st := ⟨_, rfl⟩
        obtain ⟨S, hS⟩ : ∃ S : Nat → List Nat, (fun j => plS s (keptU u c s.cl) 0 (st.take j)) = S := ⟨_, rfl⟩
        have hS' : ∀ j, plS s (keptU u c s.cl) 0 (st.take j) = S j := fun j => by rw [← hS]
        obtain ⟨pn, hpn⟩ : ∃ pn : Nat → Nat, (fun j => s.at j) = pn := ⟨_, rfl⟩
        have hpn' : ∀ j, s.at j = pn j := fun j => by rw [← hpn]
        have SF : Hid (pl (keptU u c) (m.take (k + 1)) = A ++ S st.length) := by show _ = _; rw [HSN.out, ← hS', List.take_length, hst]
        have SJ' : Hid (∀ j (hj : j < st.length), S (j + 1) = S j ++ (if keptU u c d st[j] = true then [pn j] else [])) := fun j hj => by
          subst hst
          have := SJ.out j hj
          rw [hS', hS', hpn', hd] at this
          exact this
        have S0 : Hid (S 0 = []) := by show _ = _; rw [← hS']; simp [plS]
        have PL' : Hid (∀ j, (A ++ S j).length ≤ 131072) := fun j => by have := PL.out j; rw [hst, hS'] at this; exact this
        have AT' : Hid (∀ j : Nat, ((pn j : Nat) : Int) = 256 * (p : Int) + (j : Int) * (z : Int)) := fun j => by rw [← hpn', ← hp]; exact AT.out j
        obtain ⟨L, hL⟩ : ∃ L, st.length = L := ⟨_, rfl⟩
        have HLL : Hid (st.length = L) := hL
        rw [hst, hL] at c3 f2
        rw [hst] at cq
        rw [hp] at c0 TOP
        rw [hd] at c1 HZ
        rw [hb] at c2 HZ
        rw [hz] at f4
        have hpb : p ≤ 4096 := by omega
        have CQ : Hid (w.heap[q]? = some (.cells (st.map numV).toArray 3 (0, 0))) := cq
        have E4 : Hid (Bx4 (mbox wr p d b q L) wr.heap.size p d b q L) := mbox_4 wr p d b q L
        have EB : Hid (Below wr.heap.size wr (mbox wr p d b q L)) := mbox_below wr p d b q L
        have HE : Hid (wr.alloc (.cells #[.int .i64 (p : Nat), .int .i64 (d : Nat), .int .i64 (b : Nat), .slice (some ⟨q, 0, none⟩) L L] 75) = mbox wr p d b q L) := rfl
        obtain ⟨E, hE⟩ : ∃ E, mbox wr p d b q L = E := ⟨_, rfl⟩
        rw [hE] at E4 EB HE
        clear hs hA hz hp hd hb hst hS hS' hpn hpn' hL OK TOP SN LE1 f1 f3 f5 f6 f7 f8 hE cq hMq hg2 hq HSN SJ PL AT
        have k0 : (k : Int) < (n : Int) := by omega
        go_upto_region 7 with (fail)
        rw [HE.out]
        obtain ⟨e0, e1, e2, e3⟩ := E4.out.cells
        go_wp2_with fail
        go_loopw [7, 33] (fun lv jv wz => ∃ (j : Nat) (al : Option Addr) (cl N : Nat), j ≤ L ∧ jv = .int .i64 (j : Nat) ∧ lv = .slice al N cl ∧ (A ++ S j).length = N ∧ OwnsI wz w.heap.size al ((A ++ S j).map Int.ofNat) cl ∧ Below w.heap.size w wz ∧ Bx4 wz wr.heap.size p d b q L) (fun _ jv _ => L - lenW jv)
        case atStart => exact ⟨0, al, cl, _, Nat.zero_le _, rfl, rfl, by rw [S0.out, List.append_nil], by rw [S0.out, List.append_nil]; exact HOW.out.keep EB.out, HB.out.trans (EB.out.mono HB.out.size), E4.out⟩
        case round =>
          clear e0 e1 e2 e3
          obtain ⟨j, al, cl, N, hj, rfl, rfl, hN, hO, hB, h4⟩ := hrel
          rename World => wz
          have HNN : Hid ((A ++ S j).length = N) := hN
          have OZ : Hid (OwnsI wz w.heap.size al ((A ++ S j).map Int.ofNat) cl) := hO
          have BZ : Hid (Below w.heap.size w wz) := hB
          have Z4 : Hid (Bx4 wz wr.heap.size p d b q L) := h4
          obtain ⟨d0, d1, d2, d3⟩ := h4.cells
          clear hN hO hB h4
          by_cases hjL : j < L
          · have j0 : (j : Int) < (L : Int) := by omega
            have hjst : j < st.length := by rw [HLL.out]; exact hjL
            have cst := bcell BZ.out (st_cell CQ.out j hjst)
            have STEP := SJ'.out j hjst
            obtain ⟨y, hy⟩ : ∃ y, st[j] = y := ⟨_, rfl⟩
            rw [hy] at cst STEP
            by_cases hdc : (d : Int) = c
            · have e1 : ((d : Int) == c) = true := by simp [hdc]
              by_cases hyu : y = u + 2
              · have e2 : ((y : Int) == 2 + (u : Int)) = true := by rw [beq_iff_eq]; omega
                have NX : Hid (S (j + 1) = S j ++ [pn j]) := by show _ = _; rw [STEP, if_pos (by unfold keptU; exact decide_eq_true ⟨hdc, hyu⟩)]
                have zz : 0 ≤ (j : Int) * (z : Int) ∧ (j : Int) * (z : Int) ≤ 65536 := ⟨Int.mul_nonneg (by omega) (by omega), by
                  have : (j : Int) * (z : Int) ≤ 16 * 4096 := Int.mul_le_mul (by omega) (by omega) (by omega) (by omega)
                  omega⟩
                have w1 : IntKind.i64.wrap (256 * (p : Int)) = 256 * (p : Int) := by rw [IntKind.wrap_i64]; omega
                have w2 : IntKind.i64.wrap ((j : Int) * (z : Int)) = (j : Int) * (z : Int) := by rw [IntKind.wrap_i64]; omega
                have w3 : IntKind.i64.wrap (256 * (p : Int) + (j : Int) * (z : Int)) = 256 * (p : Int) + (j : Int) * (z : Int) := by rw [IntKind.wrap_i64]; omega
                clear hdc hyu hy STEP hjst
                go_wp2_with fail
                go_region_held3 (fun w' => w'.cell? ⟨wr.heap.size, 0, none⟩ = some (.int .i64 (p : Nat)) ∧ w'.cell? ⟨wr.heap.size, 1, none⟩ = some (.int .i64 (d : Nat)) ∧ w'.cell? ⟨wr.heap.size, 2, none⟩ = some (.int .i64 (b : Nat)) ∧ w'.cell? ⟨wr.heap.size, 3, none⟩ = some (.slice (some ⟨q, 0, none⟩) L L)) (first | exact ⟨v0, v1, v2, v3⟩ | exact ⟨t0, t1, t2, t3⟩ | exact ⟨y0, y1, y2, y3⟩ | exact ⟨d0, d1, d2, d3⟩)
                  ((first
                    | (have g9 := RUN9; refine step_app rfl _ _ 34 rfl (.slice al N cl) (.slice (some ⟨wy.heap.size, 0, none⟩) 1 1) rfl rfl _ _ (by with_reducible exact RUN9.out) ?_)
                    | (go_at_call 76; refine (msize_any p d b q L _ z HZ.out).mono ?_; rintro e wy ⟨rfl, by0⟩; have BY : Hid (Below wz.heap.size wz wy) := Below.ofDrew by0; obtain ⟨y0, y1, y2, y3⟩ := (Z4.out.keep BY.out).cells; have BA : Hid (Below wy.heap.size wy (wy.alloc (.cells #[.int .i64 (256 * (p : Int) + (j : Int) * (z : Int))] 3))) := (Below.refl _ wy).alloc (Nat.le_refl _) _; obtain ⟨t0, t1, t2, t3⟩ := ((Z4.out.keep BY.out).keep BA.out).cells; obtain ⟨a9, c9, w9, run9, o9, u9, n9⟩ := appI_run w.heap.size (wy.alloc (.cells #[.int .i64 (256 * (p : Int) + (j : Int) * (z : Int))] 3)) (Nat.le_trans BZ.out.size (Nat.le_trans BY.out.size BA.out.size)) al ((A ++ S j).map Int.ofNat) N cl ((OZ.out.keep BY.out).keep BA.out) (by rw [List.length_map]; exact HNN.out) wy.heap.size (256 * (p : Int) + (j : Int) * (z : Int)) 1 (cell_of_row _ _ 0 _ _ _ (Go.heap_alloc_new wy _)) (by rw [List.length_map]; have := PL'.out j; omega); have RUN9 : Hid ((Builtin.append_ #[34, 34] 34 #[.slice al N cl, .slice (some ⟨wy.heap.size, 0, none⟩) 1 1]).run Tryz.prog (wy.alloc (.cells #[.int .i64 (256 * (p : Int) + (j : Int) * (z : Int))] 3)) = .ok (.slice a9 (N + 1) c9) w9) := run9; have O9 : Hid (OwnsI w9 w.heap.size a9 ((A ++ S j).map Int.ofNat ++ [256 * (p : Int) + (j : Int) * (z : Int)]) c9) := o9; have U9 : Hid (Tu (fun k => ob al = some k) (wy.alloc (.cells #[.int .i64 (256 * (p : Int) + (j : Int) * (z : Int))] 3)) w9) := u9; have X4 : Hid (Bx4 w9 wr.heap.size p d b q L) := ((Z4.out.keep BY.out).keep BA.out).own ((OZ.out.keep BY.out).keep BA.out) u9; obtain ⟨v0, v1, v2, v3⟩ := X4.out.cells; clear run9 o9 u9 n9 by0)))
                have BW : Hid (Below w.heap.size w w9) := BZ.out.trans ((BY.out.trans (BA.out.mono BY.out.size)).mono BZ.out.size |>.trans (U9.out.below (fun i e => OZ.out.ge i e) (Nat.le_trans BZ.out.size (Nat.le_trans BY.out.size BA.out.size))))
                have OO : Hid (OwnsI w9 w.heap.size a9 ((A ++ S (j + 1)).map Int.ofNat) c9) := by
                  show OwnsI _ _ _ _ _
                  have := O9.out
                  rw [NX.out, ← List.append_assoc, List.map_append]
                  rw [show List.map Int.ofNat [pn j] = [256 * (p : Int) + (j : Int) * (z : Int)] from by rw [← AT'.out j]; rfl]
                  exact this
                go_wp2
                go_roundw
                case rel => exact ⟨j + 1, a9, c9, N + 1, by omega, by congr 1, rfl, by rw [NX.out, ← List.append_assoc, List.length_append, HNN.out]; rfl, OO.out, BW.out, X4.out⟩
                case measure => simp [lenW]; omega
              · have e2 : ((y : Int) == 2 + (u : Int)) = false := by rw [beq_eq_false_iff_ne]; omega
                have NX : Hid (S (j + 1) = S j) := by show _ = _; rw [STEP, if_neg (by unfold keptU; simp; exact fun _ => hyu), List.append_nil]
                clear hdc hyu hy STEP hjst
                go_wp2
                go_roundw
                case rel => exact ⟨j + 1, al, cl, N, by omega, by congr 1, rfl, by rw [NX.out]; exact HNN.out, by rw [NX.out]; exact OZ.out, BZ.out, Z4.out⟩
                case measure => simp [lenW]; omega
            · have e1 : ((d : Int) == c) = false := by rw [beq_eq_false_iff_ne]; exact hdc
              have NX : Hid (S (j + 1) = S j) := by show _ = _; rw [STEP, if_neg (by unfold keptU; simp; exact fun e => absurd e hdc), List.append_nil]
              clear hdc hy STEP hjst
              go_wp2
              go_roundw
              case rel => exact ⟨j + 1, al, cl, N, by omega, by congr 1, rfl, by rw [NX.out]; exact HNN.out, by rw [NX.out]; exact OZ.out, BZ.out, Z4.out⟩
              case measure => simp [lenW]; omega
          · obtain rfl : j = L := by omega
            have HF : Hid (pl (keptU u c) (m.take (k + 1)) = A ++ S j) := by show _ = _; rw [SF.out, HLL.out]
            go_wp2
            go_roundw
            case rel => exact ⟨k + 1, al, cl, by omega, by congr 1, by rw [HF.out, HNN.out], by rw [HF.out]; exact OZ.out, BZ.out⟩
            case measure => simp [lenW]; omega
      · obtain rfl : k = n := by omega
        have F : Hid (OwnsI wr w.heap.size al l cl ∧ (pl (keptU u c) (m.take k)).length = l.length) := by
          have := HOW.out
          have e : (pl (keptU u c) (m.take k)).map Int.ofNat = l := by rw [List.take_of_length_le (Nat.le_of_eq HN.out)]; exact HL.out
          rw [e] at this
          exact ⟨this, by rw [← e, List.length_map]⟩
        go_wp2
        go_ret
        exact ⟨al, cl, by rw [← F.out.2]; rfl, F.out.1, HB.out⟩
  · have hl0 : l = [] := by rw [← hl]; unfold keptI; rw [if_neg (by omega)]
    subst hl0
    clear hR ho hl h2
    rcases Int.lt_or_le v 0 with hn | hn
    · clear hv
      go_enter Tryz.func44, Tryz.ntmps44
      go_wp2
      go_ret
      exact ⟨none, 0, rfl, ownsI_none _ _, Below.refl _ _⟩
    · have hn' : (W : Int) ≤ v := by omega
      clear hv
      go_enter Tryz.func44, Tryz.ntmps44
      go_wp2
      go_ret
      exact ⟨none, 0, rfl, ownsI_none _ _, Below.refl _ _⟩
end Go.Proofs.YtgmljgogmbaioaaGreatDoor
