/- The document's disk in memory; what its sector and New answer. -/
import Derived.Test.YtofmicbhheebiaaDoorGzAF
import Derived.Test.YtofmicbhheebiaaDoorGzAE
namespace Go.Proofs.YtofmicbhheebiaaDoor
open Go.RowKit Go.Maps
set_option linter.unusedVariables false
set_option maxRecDepth 4000

theorem rsector_nil (w : World) : Calls Tryd.prog 21 #[.slice none 0 0] w fun e w' => e = .returned (.slice (some ⟨w.heap.size, 0, none⟩) 64 64) ∧ RowB w' w.heap.size 5 zeros ∧ Below w.heap.size w w' := by
  have hmk := make_row 64 (by decide) w
  obtain ⟨wA, hwA⟩ : ∃ wA, w.alloc (.cells (madeCells #[.int .u8 0] 64) 5) = wA := ⟨_, rfl⟩
  have BA : Hid (Below w.heap.size w wA) := by show Below _ _ _; rw [← hwA]; exact (Below.refl _ w).alloc (Nat.le_refl _) _
  have RA : Hid (RowB wA w.heap.size 5 zeros) := by
    show wA.heap[w.heap.size]? = _
    rw [← hwA, made_zero]
    exact Go.heap_alloc_new w _
  rw [hwA] at hmk
  have e64 : ((64 : Nat) : Int) = 64 := rfl
  rw [e64] at hmk
  clear hwA
  go_enter Tryd.func21, Tryd.ntmps21
  go_wp2
  refine wp_loop_rounds 1 ?_
  rw [rounds_succ]
  go_wp2
  go_ret
  exact ⟨rfl, RA.out, BA.out⟩

theorem RowB.set {w : World} {g : Nat} {t : TypeId} {l : List Int} (h : RowB w g t l) (i : Nat) (x : Int) : RowB (w.setCell ⟨g, i, none⟩ (.int .u8 x)) g t (l.set i x) := by
  show (w.setCell ⟨g, i, none⟩ (.int .u8 x)).heap[g]? = _
  rw [heap_setCell_same w g i _ t _ h]
  simp [cellsB, List.map_set]

theorem over_set {l s : List Int} {k : Nat} (hk : k < l.length) (hs : k < s.length) : (over k l s).set k (l.getD k 0) = over (k + 1) l s := by
  unfold over
  have h1 : (l.take k).length = k := by rw [List.length_take]; omega
  rw [List.set_append_right _ _ (by omega), h1, Nat.sub_self, List.drop_eq_getElem_cons hs, List.set_cons_zero, List.take_succ_eq_append_getElem hk, List.append_assoc]
  simp [List.getD, hk]

theorem over_none (b s : List Int) : over 0 b s = s := by simp [over]
theorem over_sec {l : List Int} : over l.length l zeros = secL l := by simp [over, secL]

set_option maxHeartbeats 1000000 in
theorem rsector_any (a : Option Addr) (n cap : Nat) (l : List Int) (w : World) (hn : n = l.length) (h : IsB w a l) (hl : l.length ≤ 64) :
    Calls Tryd.prog 21 #[.slice a n cap] w fun e w' => e = .returned (.slice (some ⟨w.heap.size, 0, none⟩) 64 64) ∧ RowB w' w.heap.size 5 (secL l) ∧ Below w.heap.size w w' := by
  subst hn
  have H : Hid (IsB w a l) := h
  have hmk := make_row 64 (by decide) w
  obtain ⟨wA, hwA⟩ : ∃ wA, w.alloc (.cells (madeCells #[.int .u8 0] 64) 5) = wA := ⟨_, rfl⟩
  have BA : Hid (Below w.heap.size w wA) := by show Below _ _ _; rw [← hwA]; exact (Below.refl _ w).alloc (Nat.le_refl _) _
  have RA : Hid (RowB wA w.heap.size 5 (over 0 l zeros)) := by
    show wA.heap[w.heap.size]? = _
    rw [← hwA, made_zero, over_none]
    exact Go.heap_alloc_new w _
  rw [hwA] at hmk
  have e64 : ((64 : Nat) : Int) = 64 := rfl
  rw [e64] at hmk
  clear hwA h
  go_enter Tryd.func21, Tryd.ntmps21
  go_wp2
  go_loopw [8] (fun iv wr => ∃ k : Nat, k ≤ l.length ∧ iv = .int .i64 (k : Nat) ∧ RowB wr w.heap.size 5 (over k l zeros) ∧ Below w.heap.size w wr) (fun iv _ => l.length - (intOf iv).toNat)
  case atStart => exact ⟨0, Nat.zero_le _, rfl, RA.out, BA.out⟩
  case round =>
    obtain ⟨k, hk, rfl, hR, hB⟩ := hrel
    rename World => wr
    have HR : Hid (RowB wr w.heap.size 5 (over k l zeros)) := hR
    have HB : Hid (Below w.heap.size w wr) := hB
    by_cases hlt : k < l.length
    · have OL : Hid (k < (over k l zeros).length) := by show _ < _; simp [over, zeros_len]; omega
      have hcz := hR.cell k OL.out
      have hfz := hR.thawed k
      have hI := H.out.keep hB
      obtain ⟨_, rfl | ⟨b, off, rfl, hs, hc⟩⟩ := hI
      · simp at hlt
      · have hcell := hc k hlt
        obtain ⟨x, hx⟩ : ∃ x, l.getD k 0 = x := ⟨_, rfl⟩
        have NX : Hid (RowB (wr.setCell ⟨w.heap.size, k, none⟩ (.int .u8 x)) w.heap.size 5 (over (k + 1) l zeros)) := by
          have := hR.set k x
          rw [← hx, over_set hlt (by rw [zeros_len]; omega)] at this
          rw [← hx]; exact this
        have BX : Hid (Below w.heap.size w (wr.setCell ⟨w.heap.size, k, none⟩ (.int .u8 x))) := hB.trans ((Only.set w.heap.size k (.int .u8 x) wr).below (Nat.le_refl _))
        rw [hx] at hcell
        clear hR hB hc hx
        go_wp2
        go_roundw
        case rel => exact ⟨k + 1, by omega, by go_num, NX.out, BX.out⟩
        case measure => simp [intOf]; omega
    · obtain rfl : k = l.length := by omega
      clear hR hB
      go_wp2
      go_ret
      exact ⟨rfl, by have := HR.out; rwa [over_sec] at this, HB.out⟩

/-! ### rows of sectors, and of writes -/
/-- A sector's slice. -/
def secV (g : Nat) : Value := .slice (some ⟨g, 0, none⟩) 64 64
def cellsG (gs : List Nat) : List Value := gs.map secV
def RowG (w : World) (base : Nat) (a : Option Addr) (gs : List Nat) (cap : Nat) : Prop := w.ownsRow base 22 1 (.slice a gs.length cap) gs.length (cellsG gs)
def cellsQ : List (Nat × Nat) → List Value
  | [] => []
  | x :: r => .int .i64 (x.1 : Nat) :: secV x.2 :: cellsQ r
def RowQ (w : World) (base : Nat) (a : Option Addr) (qs : List (Nat × Nat)) (cap : Nat) : Prop := w.ownsRow base 79 2 (.slice a qs.length cap) qs.length (cellsQ qs)

theorem cellsQ_append : ∀ (a b : List (Nat × Nat)), cellsQ (a ++ b) = cellsQ a ++ cellsQ b
  | [], _ => rfl
  | x :: a, b => by simp [cellsQ, cellsQ_append a b]
theorem cellsQ_at : ∀ (qs : List (Nat × Nat)) (i : Nat) (h : i < qs.length), (cellsQ qs)[i * 2]? = some (.int .i64 (qs[i].1 : Nat)) ∧ (cellsQ qs)[i * 2 + 1]? = some (secV qs[i].2)
  | x :: l, 0, _ => by simp [cellsQ]
  | x :: l, i + 1, h => by
    have := cellsQ_at l i (by simpa using h)
    rw [show (i + 1) * 2 = i * 2 + 2 from by omega, show i * 2 + 2 + 1 = i * 2 + 1 + 2 from by omega]
    simpa [cellsQ] using this

theorem rowG_nil (w : World) (base : Nat) : RowG w base none [] 0 := World.ownsRow_nil _ _ _ _
theorem rowQ_nil (w : World) (base : Nat) : RowQ w base none [] 0 := World.ownsRow_nil _ _ _ _
theorem owns_keepK {w w' : World} {base n s : Nat} {e : TypeId} {v : Value} {xs : List Value} {K : Obj → Bool} (h : w.ownsRow base e s v n xs) (hk : ∀ cur, K (.cells cur e (0, 0)) = true) (he : ∀ (i : Nat) (o : Obj), w.heap[i]? = some o → K o = true → w'.heap[i]? = some o) : w'.ownsRow base e s v n xs := by
  obtain ⟨h0, h1 | ⟨g, c', cur, h1, hg, h2, h3⟩⟩ := h
  · exact ⟨h0, .inl h1⟩
  · exact ⟨h0, .inr ⟨g, c', cur, h1, hg, he g _ h2 (hk cur), h3⟩⟩
theorem owns_kind {w : World} {base n s cap m : Nat} {e : TypeId} {a : Option Addr} {xs : List Value} (hm : m = n) (h : w.ownsRow base e s (.slice a n cap) n xs) : ∀ j, (Value.slice a m cap).ownBlock = some j → base ≤ j ∧ ∃ cur, w.heap[j]? = some (.cells cur e (0, 0)) := by
  subst hm
  intro j hj
  obtain ⟨_, ⟨h1, h2⟩ | ⟨g, c', cur, h1, hg, h2, _⟩⟩ := h
  · rw [h1] at hj; simp [Value.ownBlock] at hj
  · rw [h1] at hj
    simp [Value.ownBlock] at hj
    subst hj
    exact ⟨hg, cur, h2⟩

/-- The cell of a row, and that it may be written. -/
theorem RowG.cell {w : World} {base cap i : Nat} {a : Option Addr} {gs : List Nat} (h : RowG w base a gs cap) (hi : i < gs.length) : ∃ g, a = some ⟨g, 0, none⟩ ∧ base ≤ g ∧ gs.length ≤ cap ∧ (∃ cur, w.heap[g]? = some (.cells cur 22 (0, 0))) ∧ w.cell? ⟨g, i, none⟩ = some (secV gs[i]) ∧ w.frozen? ⟨g, i, none⟩ = false := by
  have h' := h
  obtain ⟨_, ⟨h1, h2⟩ | ⟨g, c', cur, h1, hg, h2, h3, _⟩⟩ := h
  · omega
  · cases h1
    refine ⟨g, rfl, hg, h3, ⟨cur, h2⟩, ?_, frozen_of_row w g i _ _ h2⟩
    have hc := World.ownsRow.cellAt h' i (by omega)
    rw [hc]
    simp [cellsG, hi]
theorem RowQ.cell {w : World} {base cap i : Nat} {a : Option Addr} {qs : List (Nat × Nat)} (h : RowQ w base a qs cap) (hi : i < qs.length) : ∃ g, a = some ⟨g, 0, none⟩ ∧ base ≤ g ∧ qs.length ≤ cap ∧ (∃ cur, w.heap[g]? = some (.cells cur 79 (0, 0))) ∧ w.cell? ⟨g, i * 2, none⟩ = some (.int .i64 (qs[i].1 : Nat)) ∧ w.cell? ⟨g, i * 2 + 1, none⟩ = some (secV qs[i].2) := by
  have h' := h
  obtain ⟨_, ⟨h1, h2⟩ | ⟨g, c', cur, h1, hg, h2, h3, _⟩⟩ := h
  · omega
  · cases h1
    obtain ⟨e0, e1⟩ := cellsQ_at qs i hi
    refine ⟨g, rfl, hg, h3, ⟨cur, h2⟩, ?_, ?_⟩
    · rw [World.ownsRow.cellAt h' (i * 2) (by omega)]; exact e0
    · rw [World.ownsRow.cellAt h' (i * 2 + 1) (by omega)]; exact e1

/-- A sector of a row is stored. -/
theorem RowG.set {w : World} {base cap i q : Nat} {g : Nat} {gs : List Nat} (h : RowG w base (some ⟨g, 0, none⟩) gs cap) (hi : i < gs.length) : RowG (w.setCell ⟨g, i, none⟩ (secV q)) base (some ⟨g, 0, none⟩) (gs.set i q) cap := by
  obtain ⟨h0, ⟨h1, h2⟩ | ⟨g', c', cur, h1, hg, h2, h3, h4, h5, h6⟩⟩ := h
  · cases h1
  · cases h1
    refine ⟨by simp [cellsG], .inr ⟨g, cap, cur.setIfInBounds i (secV q), by rw [List.length_set], hg, heap_setCell_same w g i cur _ _ h2, by rw [List.length_set]; exact h3, h4, by simpa using h5, ?_⟩⟩
    rw [List.length_set, Array.toList_setIfInBounds, List.take_set, h6]
    simp [cellsG, List.map_set]
end Go.Proofs.YtofmicbhheebiaaDoor
