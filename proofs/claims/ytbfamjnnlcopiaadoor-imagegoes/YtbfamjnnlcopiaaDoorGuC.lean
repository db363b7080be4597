/- Plain mathematics of layer 17: an image at another base, and back. -/
import Derived.Test.YtbfamjnnlcopiaaDoorIgP
import Derived.Test.YtbfamjnnlcopiaaDoorIgI
import Derived.Test.YtbfamjnnlcopiaaDoorGtC
import Derived.Test.YtbfamjnnlcopiaaDoorGtB
namespace Go.Proofs.YtbfamjnnlcopiaaDoor
set_option linter.unusedVariables false
set_option maxRecDepth 4000

/-- May an image go to this base, in an arena of n bytes? -/
def goesA (t n : Int) : Prop := goodR t ∧ 0 ≤ n ∧ n ≤ 1048576
/-- What becomes of an image at another base. -/
noncomputable def moveG (m : Im) (t n : Int) : Im × Int :=
  open Classical in if rightG m = true then (if goesA t n then (if m.offs = [] then (⟨m.p, m.c, m.s, m.live, 0, [], m.bytes⟩, 0)
    else (if applyE m.bytes m.offs m.base t n = 0 then (⟨m.p, m.c, m.s, m.live, t, m.offs, applyB m.bytes m.offs m.base t n⟩, 0) else (noIm, applyE m.bytes m.offs m.base t n))) else (noIm, 2)) else (noIm, 4)
theorem move_form {m : Im} {t n : Int} (h : rightG m = false) : moveG m t n = (noIm, 4) := if_neg (by simp [h])
theorem move_arg {m : Im} {t n : Int} (h : rightG m = true) (h1 : ¬ goesA t n) : moveG m t n = (noIm, 2) := by
  unfold moveG
  rw [if_pos h, if_neg h1]
theorem move_none {m : Im} {t n : Int} (h : rightG m = true) (h1 : goesA t n) (h2 : m.offs = []) : moveG m t n = (⟨m.p, m.c, m.s, m.live, 0, [], m.bytes⟩, 0) := by
  unfold moveG
  rw [if_pos h, if_pos h1, if_pos h2]
theorem move_addr {m : Im} {t n : Int} (h : rightG m = true) (h1 : goesA t n) (h2 : m.offs ≠ []) (h3 : applyE m.bytes m.offs m.base t n ≠ 0) : moveG m t n = (noIm, applyE m.bytes m.offs m.base t n) := by
  unfold moveG
  rw [if_pos h, if_pos h1, if_neg h2, if_neg h3]
theorem move_ok {m : Im} {t n : Int} (h : rightG m = true) (h1 : goesA t n) (h2 : m.offs ≠ []) (h3 : applyE m.bytes m.offs m.base t n = 0) : moveG m t n = (⟨m.p, m.c, m.s, m.live, t, m.offs, applyB m.bytes m.offs m.base t n⟩, 0) := by
  unfold moveG
  rw [if_pos h, if_pos h1, if_neg h2, if_pos h3]
/-- An image that may be and has places has a good base. -/
theorem right_base {m : Im} (h : rightG m = true) (h2 : m.offs ≠ []) : goodR m.base := by
  obtain ⟨_, _, _, q⟩ := right_parts.1 h
  rcases q with q | q
  · exact q
  · exact absurd q.2 h2
theorem move_zero {m : Im} {t n : Int} (h : (moveG m t n).2 = 0) : rightG m = true ∧ goesA t n := by
  by_cases h1 : rightG m = true
  · by_cases h2 : goesA t n
    · exact ⟨h1, h2⟩
    · rw [move_arg h1 h2] at h
      exact absurd h (by show ¬ (2 : Int) = 0; decide)
  · rw [move_form (by simpa using h1)] at h
    exact absurd h (by show ¬ (4 : Int) = 0; decide)
/-- There and back it is as it was. -/
theorem move_back {m : Im} {t n : Int} (hb : AllB m.bytes) (h : (moveG m t n).2 = 0) (ho : m.offs ≠ []) : moveG (moveG m t n).1 m.base n = (m, 0) := by
  obtain ⟨h1, h2⟩ := move_zero h
  have hg := right_base h1 ho
  by_cases h3 : applyE m.bytes m.offs m.base t n = 0
  · rw [move_ok h1 h2 ho h3]
    obtain ⟨ha, hr, hn, he⟩ := apply_zero h3
    obtain ⟨r1, r2, r3⟩ := goT_two hb hr ha hg hn
    obtain ⟨k1, k2, k3, _⟩ := right_parts.1 h1
    have hlen : (goT m.base t m.bytes m.offs m.bytes).length = m.bytes.length := goT_len _ _ (right_in hr).1
    have hA : argT t m.base n := ⟨h2.1, hg, h2.2⟩
    have q := apply_ok hA r1 r2
    rw [goT_same hb hr hg h2.2 hn] at r3
    rw [r3] at q
    show moveG ⟨m.p, m.c, m.s, m.live, t, m.offs, applyB m.bytes m.offs m.base t n⟩ m.base n = (m, 0)
    rw [he]
    have hR : rightG ⟨m.p, m.c, m.s, m.live, t, m.offs, goT m.base t m.bytes m.offs m.bytes⟩ = true := right_parts.2 ⟨k1, by show ((goT m.base t m.bytes m.offs m.bytes).length : Int) = _; rw [hlen]; exact k2, r1, .inl h2.1⟩
    rw [move_ok hR ⟨hg, h2.2⟩ ho q.2]
    show (Im.mk m.p m.c m.s m.live m.base m.offs (applyB (goT m.base t m.bytes m.offs m.bytes) m.offs t m.base n), (0 : Int)) = (m, 0)
    rw [q.1]
  · rw [move_addr h1 h2 ho h3] at h
    exact absurd h h3
end Go.Proofs.YtbfamjnnlcopiaaDoor

/- Layer 17: what Move leaves behind; lists in new memory. -/
namespace Go.Proofs.YtbfamjnnlcopiaaDoor
open Go.RowKit
set_option linter.unusedVariables false
set_option maxRecDepth 4000

theorem Hid.mk' {p : Prop} (h : p) : Hid p := h
theorem ownsI_ne {w : World} {base cap g : Nat} {a : Option Addr} {l : List Int} {C : Array Value} {T : TypeId} (h : OwnsI w base a l cap) (r : w.heap[g]? = some (.cells C T (0, 0))) (hT : T ≠ 3) : ∀ ad, a = some ad → ad.block ≠ g := by
  intro ad e q
  obtain ⟨q1, ⟨q2, _⟩ | ⟨g', c', cur, r1, r2, r3, r4⟩⟩ := h
  · injection q2 with q2; rw [q2] at e; cases e
  · injection r1 with r1
    rw [r1] at e
    cases e
    subst q
    rw [r3] at r
    cases r
    exact hT rfl
theorem ownsB_ne {w : World} {base cap g : Nat} {a : Option Addr} {l : List Int} {C : Array Value} {T : TypeId} (h : OwnsB w base a l cap) (r : w.heap[g]? = some (.cells C T (0, 0))) (hT : T ≠ 5) : ∀ ad, a = some ad → ad.block ≠ g := by
  intro ad e q
  obtain ⟨q1, ⟨q2, _⟩ | ⟨g', c', cur, r1, r2, r3, r4⟩⟩ := h
  · injection q2 with q2; rw [q2] at e; cases e
  · injection r1 with r1
    rw [r1] at e
    cases e
    subst q
    rw [r3] at r
    cases r
    exact hT rfl
theorem byB_ge {w : World} {base cap : Nat} {a : Option Addr} {l : List Int} (h : OwnsB w base a l cap) : ∀ ad, a = some ad → base ≤ ad.block := by
  intro ad e
  obtain ⟨q1, ⟨q2, _⟩ | ⟨g', c', cur, r1, r2, r3, r4⟩⟩ := h
  · injection q2 with q2; rw [q2] at e; cases e
  · injection r1 with r1
    rw [r1] at e
    cases e
    exact r2
theorem ownsI_ge {w : World} {base cap : Nat} {a : Option Addr} {l : List Int} (h : OwnsI w base a l cap) : ∀ ad, a = some ad → base ≤ ad.block := by
  intro ad e
  obtain ⟨q1, ⟨q2, _⟩ | ⟨g', c', cur, r1, r2, r3, r4⟩⟩ := h
  · injection q2 with q2; rw [q2] at e; cases e
  · injection r1 with r1
    rw [r1] at e
    cases e
    exact r2
/-- A list of numbers that lies in new memory, and not in g. -/
def FarI (E W : World) (g : Nat) (a : Option Addr) (l : List Int) : Prop := IsI W a l ∧ ∀ ad, a = some ad → E.heap.size ≤ ad.block ∧ ad.block ≠ g
def FarB (E W : World) (g : Nat) (a : Option Addr) (l : List Int) : Prop := IsB W a l ∧ ∀ ad, a = some ad → E.heap.size ≤ ad.block ∧ ad.block ≠ g
theorem FarI.keep {E W W' : World} {g : Nat} {a : Option Addr} {l : List Int} (h : FarI E W g a l) (b : Below W.heap.size W W') : FarI E W' g a l := ⟨h.1.keep b, h.2⟩
theorem FarB.keep {E W W' : World} {g : Nat} {a : Option Addr} {l : List Int} (h : FarB E W g a l) (b : Below W.heap.size W W') : FarB E W' g a l := ⟨h.1.keep b, h.2⟩
theorem FarI.only {E W W' : World} {g : Nat} {a : Option Addr} {l : List Int} (h : FarI E W g a l) (o : Only g W W') : FarI E W' g a l := ⟨h.1.tgG (Tg.ofOnly o) (fun ad e => (h.2 ad e).2), h.2⟩
theorem FarB.only {E W W' : World} {g : Nat} {a : Option Addr} {l : List Int} (h : FarB E W g a l) (o : Only g W W') : FarB E W' g a l := ⟨Tg.isB (Tg.ofOnly o) h.1 (fun ad e => (h.2 ad e).2), h.2⟩
theorem FarI.low {E W W' : World} {g r : Nat} {a : Option Addr} {l : List Int} (h : FarI E W g a l) (o : Only r W W') (hr : r < E.heap.size) : IsI W' a l := h.1.tgG (Tg.ofOnly o) (fun ad e => by have := (h.2 ad e).1; omega)
theorem FarB.low {E W W' : World} {g r : Nat} {a : Option Addr} {l : List Int} (h : FarB E W g a l) (o : Only r W W') (hr : r < E.heap.size) : IsB W' a l := Tg.isB (Tg.ofOnly o) h.1 (fun ad e => by have := (h.2 ad e).1; omega)
theorem row_set46 {w : World} {g : Nat} {T : TypeId} {p c s base t : Int} {la oa ba a5 : Option Addr} {ln lc on oc bn bc n5 k5 : Nat} (h : w.heap[g]? = some (.cells (icells p c s la ln lc base oa on oc ba bn bc) T (0, 0))) :
    ((w.setCell ⟨g, 4, none⟩ (.int .i64 t)).setCell ⟨g, 6, none⟩ (.slice a5 n5 k5)).heap[g]? = some (.cells (icells p c s la ln lc t oa on oc a5 n5 k5) T (0, 0)) := by
  have h1 : (w.setCell ⟨g, 4, none⟩ (.int .i64 t)).heap[g]? = some (.cells (icells p c s la ln lc t oa on oc ba bn bc) T (0, 0)) := heap_setCell_same w g 4 _ _ _ h
  exact heap_setCell_same _ g 6 _ _ _ h1
theorem img_nobyte {w : World} {g off : Nat} {T : TypeId} {p c s base x : Int} {la oa ba : Option Addr} {ln lc on oc bn bc : Nat} (h : w.heap[g]? = some (.cells (icells p c s la ln lc base oa on oc ba bn bc) T (0, 0))) (q : w.cell? ⟨g, off, none⟩ = some (.int .u8 x)) : False := by
  obtain ⟨c0, c1, c2, c3, c4, c5, c6⟩ := icell h
  match off, q with
  | 0, q => rw [c0] at q; cases q
  | 1, q => rw [c1] at q; cases q
  | 2, q => rw [c2] at q; cases q
  | 3, q => rw [c3] at q; cases q
  | 4, q => rw [c4] at q; cases q
  | 5, q => rw [c5] at q; cases q
  | 6, q => rw [c6] at q; cases q
  | k + 7, q => simp [World.cell?, h, icells] at q
theorem isB_only {w w' : World} {g : Nat} {T : TypeId} {p c s base : Int} {la oa ba a : Option Addr} {ln lc on oc bn bc : Nat} {l : List Int} (k : IsB w a l) (h : w.heap[g]? = some (.cells (icells p c s la ln lc base oa on oc ba bn bc) T (0, 0))) (o : Only g w w') : IsB w' a l := by
  obtain ⟨h1, rfl | ⟨b, off, rfl, h3, h4⟩⟩ := k
  · exact ⟨h1, .inl rfl⟩
  · rcases l with _ | ⟨x, l⟩
    · exact ⟨h1, .inl rfl⟩
    · have hb : b ≠ g := fun e => by
        subst e
        exact img_nobyte h (h4 0 (by simp))
      exact Tg.isB (Tg.ofOnly o) ⟨h1, .inr ⟨b, off, rfl, h3, h4⟩⟩ (fun ad e => by cases e; exact hb)
/-- What Move of the document leaves behind. -/
def MoveD (w : World) (m : Im) (t n : Int) (e : Ending) (w' : World) : Prop :=
  ∃ la lc oa oc ba bc, e = .returned (.tuple #[.agg #[.int .i64 (moveG m t n).1.p, .int .i64 (moveG m t n).1.c, .int .i64 (moveG m t n).1.s, .slice la (moveG m t n).1.live.length lc, .int .i64 (moveG m t n).1.base, .slice oa (moveG m t n).1.offs.length oc, .slice ba (moveG m t n).1.bytes.length bc], .int .i64 (moveG m t n).2]) ∧ IsI w' la (moveG m t n).1.live ∧ IsI w' oa (moveG m t n).1.offs ∧ IsB w' ba (moveG m t n).1.bytes ∧ Below w.heap.size w w'

theorem moved_no {w w' : World} {m : Im} {t n x : Int} {e : Ending} (hm : moveG m t n = (noIm, x)) (h : e = .returned (.tuple #[.agg #[.int .i64 0, .int .i64 0, .int .i64 0, .slice none 0 0, .int .i64 0, .slice none 0 0, .slice none 0 0], .int .i64 x]) ∧ Below w.heap.size w w') : MoveD w m t n e w' := by
  unfold MoveD
  rw [hm]
  exact ⟨none, 0, none, 0, none, 0, h.1, ⟨(fun x h => by cases h), .inl rfl⟩, ⟨(fun x h => by cases h), .inl rfl⟩, IsB.nil _ _, h.2⟩
/-- What Move of the code leaves behind. -/
def MoveC (w : World) (m : Im) (t n : Int) (e : Ending) (w' : World) : Prop :=
  ∃ la lc oa oc ba bc, e = .returned (.tuple #[.agg #[.int .i64 (moveG m t n).1.p, .int .i64 (moveG m t n).1.c, .int .i64 (moveG m t n).1.s, .slice la (moveG m t n).1.live.length lc, .int .i64 (moveG m t n).1.base, .slice oa (moveG m t n).1.offs.length oc, .slice ba (moveG m t n).1.bytes.length bc], .int .i64 (moveG m t n).2]) ∧ IsI w' la (moveG m t n).1.live ∧ IsI w' oa (moveG m t n).1.offs ∧ IsB w' ba (moveG m t n).1.bytes ∧ (moveG m t n).1.bytes.length ≤ bc ∧ Below w.heap.size w w'
theorem movedC_no {w w' : World} {m : Im} {t n x : Int} {e : Ending} (hm : moveG m t n = (noIm, x)) (h : e = .returned (.tuple #[.agg #[.int .i64 0, .int .i64 0, .int .i64 0, .slice none 0 0, .int .i64 0, .slice none 0 0, .slice none 0 0], .int .i64 x]) ∧ Below w.heap.size w w') : MoveC w m t n e w' := by
  unfold MoveC
  rw [hm]
  exact ⟨none, 0, none, 0, none, 0, h.1, ⟨(fun x h => by cases h), .inl rfl⟩, ⟨(fun x h => by cases h), .inl rfl⟩, IsB.nil _ _, Nat.le_refl _, h.2⟩
theorem row_set3 {w : World} {g : Nat} {T : TypeId} {p c s base : Int} {la oa ba a5 : Option Addr} {ln lc on oc bn bc n5 k5 : Nat} (h : w.heap[g]? = some (.cells (icells p c s la ln lc base oa on oc ba bn bc) T (0, 0))) :
    (w.setCell ⟨g, 3, none⟩ (.slice a5 n5 k5)).heap[g]? = some (.cells (icells p c s a5 n5 k5 base oa on oc ba bn bc) T (0, 0)) := heap_setCell_same w g 3 _ _ _ h
theorem clonei_all (a : Option Addr) (c n : Nat) (l : List Int) (w : World) (hn : n = l.length) (hB : IsI w a l) (hlen : l.length ≤ 17592186044416) :
    Calls Tryd.prog 17 #[.slice a n c] w fun e w' => ∃ a' c', e = .returned (.slice a' l.length c') ∧ OwnsI w' w.heap.size a' l c' ∧ Below w.heap.size w w' := by
  subst hn
  rcases a with _ | ad
  · obtain ⟨_, rfl | ⟨b, off, e, _⟩⟩ := hB
    · refine (clonei_nil _ _ w).mono ?_
      rintro e w' ⟨rfl, rfl⟩
      exact ⟨none, 0, rfl, ownsI_none _ _, Below.refl _ _⟩
    · cases e
  · exact clonei_at ad c l w hB hlen
/-- Bytes of one's own. -/
theorem fresh_own {w : World} {base cap : Nat} {a : Option Addr} {l : List Int} (h : FreshB w base a l cap) : OwnsB w base a l cap := by
  rcases h with ⟨rfl, rfl, rfl⟩ | ⟨g, rfl, _, h⟩
  · exact ⟨by simp, .inl ⟨rfl, rfl⟩⟩
  · exact h
theorem ownsB_cap {w : World} {base cap : Nat} {a : Option Addr} {l : List Int} (h : OwnsB w base a l cap) : l.length ≤ cap := by
  obtain ⟨q1, ⟨q2, _⟩ | ⟨g', c', cur, r1, r2, r3, r4, r5, r6, r7⟩⟩ := h
  · injection q2 with q2 q3 q4; omega
  · injection r1 with r1 q3 q4
    subst q4
    omega
end Go.Proofs.YtbfamjnnlcopiaaDoor
