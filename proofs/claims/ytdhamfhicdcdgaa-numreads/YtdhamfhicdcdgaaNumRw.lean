/- What the law NumReads keeps from round to round: both readers in one state. -/
import Derived.Test.YtdhamfhicdcdgaaNumRt
import Derived.Test.YtdhamfhicdcdgaaNumCl
namespace Go.Proofs.Ytdhamfhicdcdgaa
open Go.RowKit
set_option linter.unusedVariables false

/-- Both readers stand alike; what was handed in, and what was there, is as it was. -/
def Both (w wr : World) (g1 B M : Nat) (l0 l : List Int) (e : Int) : Prop :=
  RdAt wr B l e ∧ RfAt wr B M l e ∧ Below w.heap.size w wr ∧ IsB wr (some ⟨g1, 0, none⟩) l0 ∧ l.length ≤ 140737488355328

theorem RdAt.bytes {w : World} {B : Nat} {l : List Int} {e : Int} (h : RdAt w B l e) : ∀ x ∈ l, 0 ≤ x ∧ x ≤ 255 := by
  obtain ⟨_, _, _, _, _, h3, _⟩ := h
  exact h3

theorem fx_len (l : List Int) (e : Int) (K : Nat) : (fxS l e K).2.1.length ≤ l.length := by
  rw [fxS]
  split
  · split
    · simp
    · simp
  · simp

theorem bs_left (l : List Int) (e : Int) (K : Nat) : (bsS l e K).2.1.length ≤ l.length := by
  rw [bsS]
  split
  · split
    · simp
    · simp
  · simp

theorem up_len (l : List Int) (e most : Int) : (upS l e most).2.1.length ≤ l.length := by
  rw [upS]
  split
  · split
    · split
      · simp
      · simp
    · simp
  · simp

theorem rf_grown {w w' : World} {lo M B : Nat} {l : List Int} {e : Int} (h : RfAt w lo M l e) (hg : w.grownBy w' (some B)) (hB : B ≤ lo ∨ M < B) (hM : M ≠ B) : RfAt w' lo M l e := by
  obtain ⟨a, cap, hh, h1, h2, h3, h4⟩ := h
  have hlt := lt_of_block hh
  refine ⟨a, cap, (hg.block M hlt (by intro q; exact hM (Option.some.inj q))).trans hh, h1, h2, h3, ?_⟩
  rcases h4 with h4 | ⟨b, off, e1, e0, e2, e3⟩
  · exact .inl h4
  · exact .inr ⟨b, off, e1, e0, e2, fun i hi => hg.cell (e3 i hi) (by intro q; have := Option.some.inj q; simp at this; omega)⟩

theorem rd_grown {w w' : World} {B M : Nat} {l : List Int} {e : Int} (h : RdAt w B l e) (hg : w.grownBy w' (some M)) (hM : B < M) : RdAt w' B l e := by
  obtain ⟨a, cap, hh, h1, h2, h3, h4⟩ := h
  have hlt := lt_of_block hh
  refine ⟨a, cap, (hg.block B hlt (by intro q; have := Option.some.inj q; omega)).trans hh, h1, h2, h3, ?_⟩
  rcases h4 with h4 | ⟨b, off, e1, e2, e3⟩
  · exact .inl h4
  · exact .inr ⟨b, off, e1, e2, fun i hi => hg.cell (e3 i hi) (by intro q; have := Option.some.inj q; simp at this; omega)⟩

theorem isB_grown {w w' : World} {g B : Nat} {l : List Int} (h : IsB w (some ⟨g, 0, none⟩) l) (hg : w.grownBy w' (some B)) (hne : g ≠ B) : IsB w' (some ⟨g, 0, none⟩) l := by
  obtain ⟨h1, h2 | ⟨b, off, e, hs, hc⟩⟩ := h
  · exact ⟨h1, .inl h2⟩
  · cases e
    refine ⟨h1, .inr ⟨g, 0, rfl, Nat.lt_of_lt_of_le hs hg.size, fun i hi => ?_⟩⟩
    exact hg.cell (hc i hi) (by intro q; exact hne (Option.some.inj q))

theorem rf_keep {w w' : World} {lo M : Nat} {l : List Int} {e : Int} (h : RfAt w lo M l e) (hb : Below w.heap.size w w') : RfAt w' lo M l e := by
  obtain ⟨a, cap, hh, h1, h2, h3, h4⟩ := h
  have hlt := lt_of_block hh
  refine ⟨a, cap, (hb.block M hlt).trans hh, h1, h2, h3, ?_⟩
  rcases h4 with h4 | ⟨b, off, e1, e0, e2, e3⟩
  · exact .inl h4
  · exact .inr ⟨b, off, e1, e0, e2, fun i hi => by rw [hb.cell (p := ⟨b, off + i, none⟩) (by show b < _; omega)]; exact e3 i hi⟩

theorem both_keep {w wr w' : World} {g1 B M : Nat} {l0 l : List Int} {e : Int} (h : Both w wr g1 B M l0 l e) (hb : Below wr.heap.size wr w') : Both w w' g1 B M l0 l e := by
  obtain ⟨h1, h2, h3, h4, h5⟩ := h
  exact ⟨rd_keep h1 hb, rf_keep h2 hb, h3.trans (hb.mono h3.size), isB_keep h4 hb, h5⟩

theorem both_drew {w wr : World} {g1 B M : Nat} {l0 l : List Int} {e : Int} (h : Both w wr g1 B M l0 l e) : Both w wr.drew g1 B M l0 l e := both_keep h ⟨rfl, rfl, rfl, Nat.le_refl _, fun _ _ => rfl⟩

/-- A step of the one, and the same step of the other. -/
theorem both_step {w wr w1 w2 : World} {g1 B M : Nat} {l0 l l' : List Int} {e e' : Int} (h : Both w wr g1 B M l0 l e) (hwg : w.heap.size ≤ g1) (hgB : g1 < B) (hBM : B < M) (hg1 : wr.grownBy w1 (some B)) (hR : RdAt w1 B l' e') (hg2 : w1.grownBy w2 (some M)) (hM : RfAt w2 B M l' e') (hl : l'.length ≤ l.length) : Both w w2 g1 B M l0 l' e' := by
  obtain ⟨h1, h2, h3, h4, h5⟩ := h
  have s1 := hg1.size
  refine ⟨rd_grown hR hg2 hBM, hM, ?_, isB_grown (isB_grown h4 hg1 (by omega)) hg2 (by omega), by omega⟩
  have b1 : Below w.heap.size w w1 := h3.grown hg1 h3.size (fun k hk => by cases hk; omega)
  exact b1.grown hg2 b1.size (fun k hk => by cases hk; omega)

theorem both_far {w wr w' : World} {g1 B M g : Nat} {l0 l : List Int} {e : Int} (h : Both w wr g1 B M l0 l e) (hwg : w.heap.size ≤ g1) (hgB : g1 < B) (hBM : B < M) (hMg : M < g) (hg : wr.grownBy w' (some g)) : Both w w' g1 B M l0 l e := by
  obtain ⟨h1, h2, h3, h4, h5⟩ := h
  exact ⟨rd_grown h1 hg (by omega), rf_grown h2 hg (.inr hMg) (by omega), h3.grown hg h3.size (fun k hk => by cases hk; omega), isB_grown h4 hg (by omega), h5⟩

theorem both_lt {w wr : World} {g1 B M : Nat} {l0 l : List Int} {e : Int} (h : Both w wr g1 B M l0 l e) : M < wr.heap.size := by
  obtain ⟨_, ⟨_, _, hh, _⟩, _⟩ := h
  exact lt_of_block hh

theorem own_grown {w w' : World} {base g n cap B : Nat} {xs : List Value} (h : w.ownsRow base 5 1 (.slice (some ⟨g, 0, none⟩) n cap) n xs) (hg : w.grownBy w' (some B)) (hne : g ≠ B) : w'.ownsRow base 5 1 (.slice (some ⟨g, 0, none⟩) n cap) n xs := by
  obtain ⟨h1, ⟨h2, _⟩ | ⟨g', c', cur, e1, e2, e3, e4⟩⟩ := h
  · cases h2
  · cases e1
    exact ⟨h1, .inr ⟨g, cap, cur, rfl, e2, (hg.block g (lt_of_block e3) (by intro q; exact hne (Option.some.inj q))).trans e3, e4⟩⟩

theorem fresh_grown {w w' : World} {base cap B : Nat} {a : Option Addr} {l : List Int} (h : FreshB w base a l cap) (hg : w.grownBy w' (some B)) (hB : B < base) : FreshB w' base a l cap := by
  rcases h with h | ⟨g, e1, e2, e3⟩
  · exact .inl h
  · exact .inr ⟨g, e1, e2, own_grown e3 hg (by omega)⟩

theorem fresh_isB {w : World} {base cap : Nat} {a : Option Addr} {l : List Int} (hb : ∀ x ∈ l, 0 ≤ x ∧ x ≤ 255) (h : FreshB w base a l cap) : IsB w a l := by
  rcases h with rfl | ⟨g, rfl, _, h⟩
  · exact ⟨by simp, .inl rfl⟩
  · exact isB_owns hb h

theorem bs_byte (l : List Int) (e : Int) (K : Nat) (h : ∀ x ∈ l, 0 ≤ x ∧ x ≤ 255) : ∀ x ∈ (bsS l e K).1, 0 ≤ x ∧ x ≤ 255 := by
  rw [bsS]
  split
  · split
    · exact fun x hx => h x (List.mem_of_mem_take hx)
    · simp
  · simp
end Go.Proofs.Ytdhamfhicdcdgaa
