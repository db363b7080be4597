/- The document's Free. -/
import Derived.Test.YtdpkmlkckhhcgaaRnT
namespace Go.Proofs.Ytdpkmlkckhhcgaa
open Go.RowKit
set_option linter.unusedVariables false

/-- Runs in a row of the call's own. -/
def OwnR (w : World) (base : Nat) (a : Option Addr) (L : List (Nat × Nat)) (cap : Nat) : Prop := w.ownsRow base 41 2 (.slice a L.length cap) L.length (cellsR L)
theorem ownR_nil (w : World) (base : Nat) : OwnR w base none [] 0 := World.ownsRow_nil _ _ _ _
theorem ownR_form {w : World} {base n : Nat} {v : Value} {xs : List Value} (h : w.ownsRow base 41 2 v n xs) : ∃ a cap, v = .slice a n cap := by
  obtain ⟨_, ⟨rfl, rfl⟩ | ⟨g, c', cur, rfl, _⟩⟩ := h
  · exact ⟨_, _, rfl⟩
  · exact ⟨_, _, rfl⟩
theorem OwnR.keep {w w' : World} {base cap : Nat} {a : Option Addr} {L : List (Nat × Nat)} (h : OwnR w base a L cap) (hb : Below w.heap.size w w') : OwnR w' base a L cap := by
  obtain ⟨h0, h1 | ⟨g, c', cur, h1, hg, h2, h3⟩⟩ := h
  · exact ⟨h0, .inl h1⟩
  · exact ⟨h0, .inr ⟨g, c', cur, h1, hg, by rw [hb.block g (Array.getElem?_eq_some_iff.1 h2).1]; exact h2, h3⟩⟩
theorem OwnR.isL {w : World} {base cap : Nat} {a : Option Addr} {L : List (Nat × Nat)} (h : OwnR w base a L cap) : IsL w a L := by
  have h' := h
  obtain ⟨_, ⟨h1, h2⟩ | ⟨g, c', cur, h1, hg, h2, _⟩⟩ := h
  · exact .inl (List.eq_nil_of_length_eq_zero h2)
  · cases h1
    refine .inr ⟨g, 0, rfl, (Array.getElem?_eq_some_iff.1 h2).1, fun i hi => ?_⟩
    obtain ⟨e0, e1⟩ := cellsR_at L i hi
    rw [Nat.zero_add, World.ownsRow.cellAt h' (i * 2) (by omega), World.ownsRow.cellAt h' (i * 2 + 1) (by omega)]
    exact ⟨e0, e1⟩
theorem OwnR.ge {w : World} {base cap : Nat} {a : Option Addr} {L : List (Nat × Nat)} (h : OwnR w base a L cap) : ∀ ad, a = some ad → base ≤ ad.block := by
  intro ad e
  obtain ⟨_, ⟨h1, h2⟩ | ⟨g, c', cur, h1, hg, h2, _⟩⟩ := h
  · simp at h1; rw [h1.1] at e; cases e
  · cases h1; cases e; exact hg
theorem OwnR.last {w : World} {base cap x y : Nat} {a : Option Addr} {A : List (Nat × Nat)} (h : OwnR w base a (A ++ [(x, y)]) cap) :
    ∃ g, a = some ⟨g, 0, none⟩ ∧ base ≤ g ∧ A.length + 1 ≤ cap ∧ w.cell? ⟨g, A.length * 2 + 1, none⟩ = some (.int .i64 (y : Nat)) ∧ w.frozen? ⟨g, A.length * 2 + 1, none⟩ = false ∧
      OwnR (w.setCell ⟨g, A.length * 2 + 1, none⟩ (.int .i64 ((y : Int) + 1))) base a (A ++ [(x, y + 1)]) cap := by
  have h' := h
  have hI := h.isL
  obtain ⟨h0, ⟨h1, h2⟩ | ⟨g, c', cur, h1, hg, h2, h3, h4, h5, h6⟩⟩ := h
  · simp at h2
  · cases h1
    have hi : A.length < (A ++ [(x, y)]).length := by simp
    obtain ⟨_, e1⟩ := cellsR_at (A ++ [(x, y)]) A.length hi
    have ec := World.ownsRow.cellAt h' (A.length * 2 + 1) (by simp; omega)
    refine ⟨g, rfl, hg, by simpa using h3, ?_, frozen_of_row _ _ _ _ _ h2, ?_, .inr ⟨g, cap, cur.setIfInBounds (A.length * 2 + 1) (.int .i64 ((y : Int) + 1)), ?_, hg, heap_setCell_same w g _ _ _ _ h2, ?_, h4, ?_, ?_⟩⟩
    · rw [ec, e1]; simp
    · rw [cellsR_len]
    · simp
    · simpa using h3
    · simpa using h5
    · rw [Array.toList_setIfInBounds, List.take_set]
      have e : (A ++ [(x, y + 1)]).length * 2 = (A ++ [(x, y)]).length * 2 := by simp
      rw [e, h6, cellsR_append, cellsR_append]
      simp [cellsR, cellsR_len]

theorem wpList_appR {ops : Array Oper} {rest : List Oper} {o : Oper} {a : Act} {Q : Exit → Act → World → Prop} {w : World} (hgd : o.guard = none) (s x : Operand)
    (ho : o.op = .call { callee := .builtin .append, args := #[s, x], argTypes := #[33, 33] })
    (base : Nat) (hbase : base ≤ w.heap.size) (as0 : Option Addr) (L : List (Nat × Nat)) (cs n : Nat) (hn : n = L.length) (hs : a.eval s = .slice as0 n cs) (hown : OwnR w base as0 L cs)
    (g c : Nat) (r : Nat × Nat) (hx : a.eval x = .slice (some ⟨g, 0, none⟩) 1 c) (h0 : w.cell? ⟨g, 0, none⟩ = some (.int .i64 (r.1 : Nat))) (h1 : w.cell? ⟨g, 1, none⟩ = some (.int .i64 (r.2 : Nat))) (hlen : L.length ≤ 1000000)
    (h : ∀ a' cap' w', OwnR w' base a' (L ++ [r]) cap' → Below base w w' → wpList Try.prog ops Q rest (a.put o.dst (.slice a' (n + 1) cap')) w') :
    wpList Try.prog ops Q (o :: rest) a w := by
  subst hn
  obtain ⟨i0, hi, hz0, hz1, hz2⟩ := info_parts Try.info41
  refine wpList_append_own w hgd s x 33 ho base 41 i0 (.agg #[.int .i64 0, .int .i64 0]) 2 16 Try.underlying33 hi hz0 hz1 hz2 rfl (by decide) _ _ _ hs hown ⟨g, 0, none⟩ 1 c [.int .i64 (r.1 : Nat), .int .i64 (r.2 : Nat)] hx rfl ?_ ?_ (by unfold maxLen; omega) (by omega) hbase ?_
  · intro j u hj
    match j, hj with
    | 0, hj => simp at hj; subst hj; simpa [Addr.add] using h0
    | 1, hj => simp at hj; subst hj; simpa [Addr.add] using h1
  · intro u hu
    simp at hu
    rcases hu with rfl | rfl <;> rfl
  · intro v' w' h1 h2 h3
    obtain ⟨a', cap', rfl⟩ := ownR_form h1
    have e : cellsR (L ++ [r]) = cellsR L ++ [.int .i64 (r.1 : Nat), .int .i64 (r.2 : Nat)] := by rw [cellsR_append]; rfl
    refine h a' cap' w' (by rw [OwnR, e, List.length_append]; exact h1) ((Below.refl _ w).grown h2 hbase (by
        intro k hk
        obtain ⟨_, ⟨h4, _⟩ | ⟨g', c', cur, h4, hg, _⟩⟩ := hown
        · simp at h4; rw [h4.1] at hk; simp [Value.ownBlock] at hk
        · cases h4; simp [Value.ownBlock] at hk; omega))

theorem bset {B g j : Nat} {w w' : World} {v : Value} (h : Below B w w') (hg : B ≤ g) : Below B w (w'.setCell ⟨g, j, none⟩ v) :=
  ⟨h.os, h.tape, h.output, by have := h.size; simp; omega, fun i hi => by rw [Below.heap_setCell _ _ _ _ (show i ≠ g by omega)]; exact h.block i hi⟩
theorem freeL_taken {f : Nat → Bool} {k : Nat} (h : f k = true) : freeL f (k + 1) = freeL f k := by rw [freeL, if_pos h]
theorem freeL_new {f : Nat → Bool} {k : Nat} (h : f k = false) (h0 : k = 0 ∨ f (k - 1) = true) : freeL f (k + 1) = freeL f k ++ [(k, 0 + 1)] := by rw [freeL, if_neg (by simp [h]), if_pos h0, bump_last]
theorem freeL_on {f : Nat → Bool} {k : Nat} (h : f k = false) (h0 : 0 < k) (h1 : f (k - 1) = false) : ∃ A x y, freeL f k = A ++ [(x, y)] ∧ freeL f (k + 1) = A ++ [(x, y + 1)] ∧ y ≤ k := by
  obtain ⟨A, x, y, e, e2⟩ := (freeL_FL f k).last h0 h1
  exact ⟨A, x, y, e, by rw [freeL, if_neg (by simp [h]), if_neg (by simp [h1]; omega), e, bump_last], by omega⟩

set_option maxHeartbeats 4000000 in
theorem rfree_any (mb mg n : Nat) (f : Nat → Bool) (w : World) (h : Ref w mb mg n f) (hn : n ≤ 65536) :
    Calls Try.prog 14 #[.pointer (some ⟨mb, 0, none⟩)] w fun e w' => ∃ a cap, e = .returned (.slice a (freeL f n).length cap) ∧ IsL w' a (freeL f n) ∧ (∀ ad, a = some ad → w.heap.size ≤ ad.block) ∧ Below w.heap.size w w' := by
  have H : Hid (Ref w mb mg n f) := h
  have c0 := h.cellB
  have B0 : Hid (Below w.heap.size w w) := Below.refl _ _
  have O0 : Hid (OwnR w w.heap.size none (freeL f 0) 0) := ownR_nil _ _
  clear h
  go_enter Try.func14, Try.ntmps14
  go_wp2
  go_loopw [3, 10] (fun ov iv wr => ∃ (i l : Nat) (a : Option Addr) (cap : Nat), i ≤ n ∧ iv = .int .i64 (i : Nat) ∧ l = (freeL f i).length ∧ ov = .slice a l cap ∧ OwnR wr w.heap.size a (freeL f i) cap ∧ Below w.heap.size w wr) (fun _ iv _ => n - (intOf iv).toNat)
  case atStart => exact ⟨0, 0, none, 0, Nat.zero_le _, rfl, rfl, rfl, O0.out, B0.out⟩
  case round =>
    clear O0 B0
    obtain ⟨i, l, a, cap, hi, rfl, hl, rfl, hO, hb⟩ := hrel
    rename World => wr
    have HO : Hid (OwnR wr w.heap.size a (freeL f i) cap) := hO
    have BB : Hid (Below w.heap.size w wr) := hb
    have EL : Hid (l = (freeL f i).length) := hl
    have hll : l ≤ i := by rw [hl]; exact freeL_len f i
    have e0 := bcellK hb c0
    have hbs := hb.size
    by_cases hlt : i < n
    · have c1 := bcellK hb (H.out.cell i hlt)
      have hlt' : (i : Int) < (n : Int) := by omega
      cases hf : f i
      · rw [hf] at c1
        by_cases hnew : i = 0 ∨ f (i - 1) = true
        · have EN : Hid (freeL f (i + 1) = freeL f i ++ [(i, 0 + 1)]) := freeL_new hf hnew
          have n2 : Below wr.heap.size wr (wr.alloc (.cells #[.int .i64 (i : Nat), .int .i64 0] 41)) := (Below.refl _ wr).alloc (Nat.le_refl _) _
          have O2 : Hid (OwnR (wr.alloc (.cells #[.int .i64 (i : Nat), .int .i64 0] 41)) w.heap.size a (freeL f i) cap) := hO.keep n2
          have B2 : Hid (Below w.heap.size w (wr.alloc (.cells #[.int .i64 (i : Nat), .int .i64 0] 41))) := hb.alloc hb.size _
          have x0 : (wr.alloc (.cells #[.int .i64 (i : Nat), .int .i64 0] 41)).cell? ⟨wr.heap.size, 0, none⟩ = some (.int .i64 (i : Nat)) := cell_of_row _ _ 0 _ _ _ (Go.heap_alloc_new wr _)
          have x1 : (wr.alloc (.cells #[.int .i64 (i : Nat), .int .i64 0] 41)).cell? ⟨wr.heap.size, 1, none⟩ = some (.int .i64 0) := cell_of_row _ _ 1 _ _ _ (Go.heap_alloc_new wr _)
          have hz2 : w.heap.size ≤ (wr.alloc (.cells #[.int .i64 (i : Nat), .int .i64 0] 41)).heap.size := B2.out.size
          have hfl : (freeL f i).length ≤ 1000000 := by omega
          clear hO hb hl n2 hf
          have HN : Hid (i = 0 ∨ f (i - 1) = true) := hnew
          clear hnew
          by_cases hi0 : i = 0
          · subst hi0
            clear HN
            go_wp2_with (at_builtin; refine wpList_appR rfl _ _ rfl w.heap.size hz2 a (freeL f 0) cap _ EL.out rfl O2.out _ _ (0, 0) rfl x0 x1 hfl ?_; intro a3 c3 w3 r3 b3; obtain ⟨g3, rfl, hg3, hc3, y0, y1, o3⟩ := r3.last; rw [← EL.out] at y0 y1 o3 hc3; have O3 : Hid (OwnR (w3.setCell ⟨g3, l * 2 + 1, none⟩ (.int .i64 (((0 : Nat) : Int) + 1))) w.heap.size (some ⟨g3, 0, none⟩) (freeL f 0 ++ [(0, 0 + 1)]) c3) := o3; have B3 : Hid (Below w.heap.size w w3) := B2.out.trans b3; clear o3 r3 b3)
            go_roundw
            case rel => exact ⟨1, l + 1, some ⟨g3, 0, none⟩, c3, by omega, rfl, by rw [EN.out, EL.out]; simp, rfl, by rw [EN.out]; exact O3.out, bset B3.out hg3⟩
            case measure => simp [intOf]; omega
          · obtain ⟨j, rfl⟩ : ∃ j, i = j + 1 := ⟨i - 1, by omega⟩
            have hfj : f j = true := by rcases HN.out with h | h; omega; simpa using h
            have c2 := bcellK BB.out (H.out.cell j (by omega))
            rw [hfj] at c2
            have hj : (j : Int) < (n : Int) := by omega
            clear HN hfj hi0
            go_wp2_with (at_builtin; refine wpList_appR rfl _ _ rfl w.heap.size hz2 a (freeL f (j + 1)) cap _ EL.out rfl O2.out _ _ (j + 1, 0) rfl x0 x1 hfl ?_; intro a3 c3 w3 r3 b3; obtain ⟨g3, rfl, hg3, hc3, y0, y1, o3⟩ := r3.last; rw [← EL.out] at y0 y1 o3 hc3; have O3 : Hid (OwnR (w3.setCell ⟨g3, l * 2 + 1, none⟩ (.int .i64 (((0 : Nat) : Int) + 1))) w.heap.size (some ⟨g3, 0, none⟩) (freeL f (j + 1) ++ [(j + 1, 0 + 1)]) c3) := o3; have B3 : Hid (Below w.heap.size w w3) := B2.out.trans b3; clear o3 r3 b3)
            go_roundw
            case rel => exact ⟨j + 1 + 1, l + 1, some ⟨g3, 0, none⟩, c3, by omega, by go_num, by rw [EN.out, EL.out]; simp, rfl, by rw [EN.out]; exact O3.out, bset B3.out hg3⟩
            case measure => simp [intOf]; omega
        · have hi0 : 0 < i := by omega
          have hfj : f (i - 1) = false := by
            cases e : f (i - 1)
            · rfl
            · exact absurd (.inr e) hnew
          obtain ⟨A, x, y, eA, eB, hy⟩ := freeL_on hf hi0 hfj
          have EB : Hid (freeL f (i + 1) = A ++ [(x, y + 1)]) := eB
          have ho := hO
          rw [eA] at ho
          obtain ⟨g3, rfl, hg3, hc3, y0, y1, o3⟩ := ho.last
          have O3 : Hid (OwnR (wr.setCell ⟨g3, A.length * 2 + 1, none⟩ (.int .i64 ((y : Int) + 1))) w.heap.size (some ⟨g3, 0, none⟩) (A ++ [(x, y + 1)]) cap) := o3
          obtain ⟨m, hm⟩ : ∃ m, A.length = m := ⟨_, rfl⟩
          have hlm : l = m + 1 := by rw [hl, eA]; simp [hm]
          have EM : Hid (A.length = m) := hm
          rw [hm] at y0 y1 hc3 O3
          obtain ⟨j, rfl⟩ : ∃ j, i = j + 1 := ⟨i - 1, by omega⟩
          have c2 := bcellK hb (H.out.cell j (by omega))
          rw [show f j = false from by simpa using hfj] at c2
          have hj : (j : Int) < (n : Int) := by omega
          have hjb : ((j : Int) + 1 == 0) = false := beq_eq_false_iff_ne.2 (by omega)
          clear hO hb hl hf hfj hnew eA eB ho o3 hm hi0 EL HO
          subst hlm
          go_wp2
          go_roundw
          case rel => exact ⟨j + 1 + 1, m + 1, some ⟨g3, 0, none⟩, cap, by omega, by go_num, by rw [EB.out]; simp [EM.out], rfl, by rw [EB.out]; exact O3.out, bset BB.out hg3⟩
          case measure => simp [intOf]; omega
      · have EN : Hid (freeL f (i + 1) = freeL f i) := freeL_taken hf
        rw [hf] at c1
        clear hO hb hl hf
        go_wp2
        go_roundw
        case rel => exact ⟨i + 1, l, a, cap, by omega, by go_num, by rw [EN.out]; exact EL.out, rfl, by rw [EN.out]; exact HO.out, BB.out⟩
        case measure => simp [intOf]; omega
    · obtain rfl : i = n := by omega
      clear hO hb hl
      go_wp2
      go_ret
      exact ⟨a, cap, by rw [← EL.out]; rfl, HO.out.isL, HO.out.ge, BB.out⟩
end Go.Proofs.Ytdpkmlkckhhcgaa
