/- The document's span in memory: Size, Pages, Has, Take, Give, At, Slot. -/
import Derived.Test.YtmahgdjbgkeecaaDoorSpB
import Derived.Test.YtmahgdjbgkeecaaDoorSpU
namespace Go.Proofs.YtmahgdjbgkeecaaDoor
open Go.RowKit
set_option linter.unusedVariables false

def cellsT (f : Nat → Bool) (n : Nat) : List Value := (List.range n).map fun i => Value.bool (f i)
theorem cellsT_len (f : Nat → Bool) (n : Nat) : (cellsT f n).length = n := by simp [cellsT]
theorem cellsT_at (f : Nat → Bool) (n i : Nat) (h : i < n) : (cellsT f n)[i]? = some (.bool (f i)) := by simp [cellsT, h]

/-- The document's span: a box mb, a row mg. -/
structure Ref (w : World) (mb mg : Nat) (p c s : Int) (n : Nat) (f : Nat → Bool) : Prop where
  box : w.heap[mb]? = some (.cells #[.int .i64 p, .int .i64 c, .int .i64 s, .slice (some ⟨mg, 0, none⟩) n n] 43 (0, 0))
  row : w.heap[mg]? = some (.cells (cellsT f n).toArray 4 (0, 0))
theorem Ref.lt {w : World} {mb mg n : Nat} {p c s : Int} {f : Nat → Bool} (h : Ref w mb mg p c s n f) : mb < w.heap.size ∧ mg < w.heap.size := ⟨(Array.getElem?_eq_some_iff.1 h.box).1, (Array.getElem?_eq_some_iff.1 h.row).1⟩
theorem Ref.apart {w : World} {mb mg n : Nat} {p c s : Int} {f : Nat → Bool} (h : Ref w mb mg p c s n f) : mb ≠ mg := by
  rintro rfl
  have h1 := h.box
  rw [h.row] at h1
  simp at h1
theorem Ref.keep {w w' : World} {mb mg n : Nat} {p c s : Int} {f : Nat → Bool} (h : Ref w mb mg p c s n f) (hb : Below w.heap.size w w') : Ref w' mb mg p c s n f :=
  ⟨by rw [hb.block mb h.lt.1]; exact h.box, by rw [hb.block mg h.lt.2]; exact h.row⟩
theorem Ref.beside {w w' : World} {mb mg n o : Nat} {p c s : Int} {f : Nat → Bool} (h : Ref w mb mg p c s n f) (ho : Only o w w') (h1 : mb ≠ o) (h2 : mg ≠ o) : Ref w' mb mg p c s n f :=
  ⟨by rw [ho.block mb h1]; exact h.box, by rw [ho.block mg h2]; exact h.row⟩
theorem Ref.drewN {w : World} {mb mg n : Nat} {p c s : Int} {f : Nat → Bool} (h : Ref w mb mg p c s n f) (m : Nat) : Ref (w.drewN m) mb mg p c s n f := ⟨h.box, h.row⟩
theorem Ref.drew {w : World} {mb mg n : Nat} {p c s : Int} {f : Nat → Bool} (h : Ref w mb mg p c s n f) : Ref w.drew mb mg p c s n f := ⟨h.box, h.row⟩
theorem Ref.c0 {w : World} {mb mg n : Nat} {p c s : Int} {f : Nat → Bool} (h : Ref w mb mg p c s n f) : w.cell? ⟨mb, 0, none⟩ = some (.int .i64 p) := cell_of_row _ _ 0 _ _ _ h.box
theorem Ref.c1 {w : World} {mb mg n : Nat} {p c s : Int} {f : Nat → Bool} (h : Ref w mb mg p c s n f) : w.cell? ⟨mb, 1, none⟩ = some (.int .i64 c) := cell_of_row _ _ 1 _ _ _ h.box
theorem Ref.c2 {w : World} {mb mg n : Nat} {p c s : Int} {f : Nat → Bool} (h : Ref w mb mg p c s n f) : w.cell? ⟨mb, 2, none⟩ = some (.int .i64 s) := cell_of_row _ _ 2 _ _ _ h.box
theorem Ref.c3 {w : World} {mb mg n : Nat} {p c s : Int} {f : Nat → Bool} (h : Ref w mb mg p c s n f) : w.cell? ⟨mb, 3, none⟩ = some (.slice (some ⟨mg, 0, none⟩) n n) := cell_of_row _ _ 3 _ _ _ h.box
theorem Ref.cell {w : World} {mb mg n : Nat} {p c s : Int} {f : Nat → Bool} (h : Ref w mb mg p c s n f) (i : Nat) (hi : i < n) : w.cell? ⟨mg, i, none⟩ = some (.bool (f i)) := by
  rw [cell_of_row _ _ i _ _ _ h.row]; simpa using cellsT_at f n i hi
theorem Ref.thawed {w : World} {mb mg n : Nat} {p c s : Int} {f : Nat → Bool} (h : Ref w mb mg p c s n f) (i : Nat) : w.frozen? ⟨mg, i, none⟩ = false := frozen_of_row _ _ _ _ _ h.row
theorem heap_set {w : World} {g j : Nat} {v : Value} {cs : Array Value} {t : TypeId} (h : w.heap[g]? = some (.cells cs t (0, 0))) : (w.setCell ⟨g, j, none⟩ v).heap[g]? = some (.cells (cs.setIfInBounds j v) t (0, 0)) := by
  simp only [World.setCell, Array.getElem?_modify, h]
  simp
theorem Ref.set {w : World} {mb mg n : Nat} {p c s : Int} {f : Nat → Bool} (h : Ref w mb mg p c s n f) (i : Nat) (v : Bool) : Ref (w.setCell ⟨mg, i, none⟩ (.bool v)) mb mg p c s n (put f i v) := by
  refine ⟨by rw [(Only.set mg i _ w).block mb h.apart]; exact h.box, ?_⟩
  rw [heap_set h.row]
  have e : (cellsT f n).set i (.bool v) = cellsT (put f i v) n := by
    apply List.ext_getElem
    · simp [cellsT]
    · intro j h1 h2
      simp [cellsT, List.getElem_set, put]
      by_cases e : i = j
      · subst e; simp
      · simp [e, Ne.symm e]
  simp [← e]

theorem rsize_any (mb mg n : Nat) (p c s : Int) (f : Nat → Bool) (w : World) (h : Ref w mb mg p c s n f) :
    Calls Tryd.prog 21 #[.pointer (some ⟨mb, 0, none⟩)] w fun e w' => e = .returned (.int .i64 (szI c s)) ∧ w = w' := by
  have b1 := h.c1
  have b2 := h.c2
  clear h
  by_cases hc : c = 7
  · subst hc
    rw [show szI 7 s = s from rfl]
    go_enter Tryd.func21, Tryd.ntmps21
    go_wp2
    go_ret
    exact ⟨rfl, rfl⟩
  · have hq : (c == 7) = false := beq_eq_false_iff_ne.2 hc
    have E : Hid (szI c s = sizeI c) := by show _ = _; unfold szI; rw [if_neg hc]
    rw [E.out]
    clear hc
    go_enter Tryd.func21, Tryd.ntmps21
    go_wp2_with (go_at_call 42; refine (qsize_any c _).mono ?_; rintro e w' ⟨rfl, rfl⟩)
    go_ret
    exact ⟨rfl, rfl⟩
theorem rpages_any (c s : Int) (w : World) (g : Nat) (hg : pgsN c s = g) :
    Calls Tryd.prog 24 #[.int .i64 c, .int .i64 s] w fun e w' => e = .returned (.int .i64 (g : Nat)) ∧ w = w' := by
  subst hg
  by_cases hc : c = 7
  · subst hc
    rw [show pgsN 7 s = pagesN s from rfl]
    go_enter Tryd.func24, Tryd.ntmps24
    go_wp2_with (go_at_call 45; refine (qpages_any s _).mono ?_; rintro e w' ⟨rfl, rfl⟩)
    go_ret
    exact ⟨rfl, rfl⟩
  · have hq : (c == 7) = false := beq_eq_false_iff_ne.2 hc
    have E : Hid (pgsN c s = 1) := by show _ = _; unfold pgsN; rw [if_neg hc]
    rw [E.out]
    clear hc
    go_enter Tryd.func24, Tryd.ntmps24
    go_wp2
    go_ret
    exact ⟨rfl, rfl⟩
theorem rhas_any (mb mg n : Nat) (p c s : Int) (f : Nat → Bool) (x : Int) (w : World) (h : Ref w mb mg p c s n f) (hn : n ≤ 65536) :
    Calls Tryd.prog 36 #[.pointer (some ⟨mb, 0, none⟩), .int .i64 x] w fun e w' => e = .returned (.bool (hasB n f x)) ∧ w = w' := by
  have b3 := h.c3
  by_cases h0 : 0 ≤ x
  · by_cases h1 : x < (n : Int)
    · obtain ⟨k, rfl⟩ : ∃ k : Nat, x = k := ⟨x.toNat, by omega⟩
      have c1 := h.cell k (by omega)
      have E : Hid (hasB n f (k : Int) = f k) := by show _ = _; unfold hasB; rw [isP_true.2 ⟨h0, h1⟩]; simp
      rw [E.out]
      clear h
      go_enter Tryd.func36, Tryd.ntmps36
      go_wp2
      go_ret
      exact ⟨rfl, rfl⟩
    · have E : Hid (hasB n f x = false) := by show _ = _; unfold hasB; rw [isP_false.2 (by omega)]; rfl
      rw [E.out]
      clear h
      go_enter Tryd.func36, Tryd.ntmps36
      go_wp2
      go_ret
      exact ⟨rfl, rfl⟩
  · have E : Hid (hasB n f x = false) := by show _ = _; unfold hasB; rw [isP_false.2 (by omega)]; rfl
    rw [E.out]
    clear h
    go_enter Tryd.func36, Tryd.ntmps36
    go_wp2
    go_ret
    exact ⟨rfl, rfl⟩
theorem rhas_is (mb mg n : Nat) (p c s : Int) (f : Nat → Bool) (x : Int) (v : Bool) (w : World) (h : Ref w mb mg p c s n f) (hn : n ≤ 65536) (hv : hasB n f x = v) :
    Calls Tryd.prog 36 #[.pointer (some ⟨mb, 0, none⟩), .int .i64 x] w fun e w' => e = .returned (.bool v) ∧ w = w' := by
  subst hv; exact rhas_any mb mg n p c s f x w h hn
theorem rgive_any (mb mg n : Nat) (p c s : Int) (f : Nat → Bool) (x : Int) (w : World) (h : Ref w mb mg p c s n f) (hn : n ≤ 65536) :
    Calls Tryd.prog 35 #[.pointer (some ⟨mb, 0, none⟩), .int .i64 x] w fun e w' => e = .returned (.bool (hasB n f x)) ∧ Ref w' mb mg p c s n (turn n f x false) ∧ Only mg w w' := by
  have H : Hid (Ref w mb mg p c s n f) := h
  have b3 := h.c3
  cases hB : hasB n f x
  · have HB : Hid (hasB n f x = false) := hB
    have HE : Hid (turn n f x false = f) := by show _ = _; funext y; exact (turn_same (fun e => by rw [hasB, e] at hB; simpa using hB) y).symm
    rw [HE.out]
    clear h hB
    go_enter Tryd.func35, Tryd.ntmps35
    go_wp2_with (go_at_call 36; refine (rhas_is mb mg n p c s f x false _ H.out hn HB.out).mono ?_; rintro e w' ⟨rfl, rfl⟩)
    go_ret
    exact ⟨rfl, H.out, Only.refl _ _⟩
  · have HB : Hid (hasB n f x = true) := hB
    have hp : isP n x = true := by rw [hasB] at hB; simp at hB; exact hB.1
    obtain ⟨h0, h1⟩ := isP_true.1 hp
    obtain ⟨k, rfl⟩ : ∃ k : Nat, x = k := ⟨x.toNat, by omega⟩
    have c1 := h.cell k (by omega)
    have z1 := h.thawed k
    have HE : Hid (turn n f (k : Int) false = put f k false) := by show _ = _; funext y; rw [← turn_put hp y]; rfl
    have h1' : k < n := by omega
    rw [HE.out]
    clear h hB hp
    go_enter Tryd.func35, Tryd.ntmps35
    go_wp2_with (go_at_call 36; refine (rhas_is mb mg n p c s f (k : Int) true _ H.out hn HB.out).mono ?_; rintro e w' ⟨rfl, rfl⟩)
    go_ret
    exact ⟨rfl, H.out.set k false, Only.set mg k _ w⟩

/-- What the document's Take leaves. -/
def RTk (mb mg n : Nat) (p c s : Int) (f : Nat → Bool) (w : World) (e : Ending) (w' : World) : Prop := ∃ r ok f', e = .returned (.tuple #[.int .i64 r, .bool ok]) ∧ TakeR n f r ok f' ∧ Ref w' mb mg p c s n f' ∧ Only mg w w'
set_option maxHeartbeats 1000000 in
theorem rtake_any (mb mg n : Nat) (p c s : Int) (f : Nat → Bool) (w : World) (h : Ref w mb mg p c s n f) (hn : n ≤ 65536) :
    Calls Tryd.prog 34 #[.pointer (some ⟨mb, 0, none⟩)] w (RTk mb mg n p c s f w) := by
  have H : Hid (Ref w mb mg p c s n f) := h
  have b3 := h.c3
  clear h
  go_enter Tryd.func34, Tryd.ntmps34
  go_wp2
  go_loop [10] (fun iv => ∃ k : Nat, k ≤ n ∧ iv = .int .i64 (k : Nat) ∧ ∀ j, j < k → f j = true) (fun iv => n - (intOf iv).toNat)
  case atStart => exact ⟨0, Nat.zero_le _, rfl, fun j hj => by omega⟩
  case round =>
    obtain ⟨k, hk, rfl, hA⟩ := hrel
    have HA : Hid (∀ j, j < k → f j = true) := hA
    clear hA
    by_cases hlt : k < n
    · have c1 := H.out.cell k hlt
      have z1 := H.out.thawed k
      cases hf : f k
      · have R : Hid (TakeR n f (k : Int) true (put f k true)) := .inl ⟨rfl, k, rfl, hlt, hf, HA.out, rfl⟩
        rw [hf] at c1
        clear hf
        go_wp2
        go_ret2
        exact ⟨_, _, _, rfl, R.out, H.out.set k true, Only.set mg k _ w⟩
      · have HF : Hid (f k = true) := hf
        rw [hf] at c1
        clear hf
        go_wp2
        go_round
        case rel => exact ⟨k + 1, by omega, by go_num, fun j hj => by rcases Nat.lt_or_eq_of_le (Nat.le_of_lt_succ hj) with h3 | h3; exact HA.out j h3; rw [h3]; exact HF.out⟩
        case measure => simp [intOf]; omega
    · obtain rfl : k = n := by omega
      have R : Hid (TakeR k f 0 false f) := .inr ⟨rfl, rfl, HA.out, rfl⟩
      go_wp2
      go_ret2
      exact ⟨_, _, _, rfl, R.out, H.out, Only.refl _ _⟩

theorem rsize_q (mb mg n : Nat) (p c s : Int) (f : Nat → Bool) (z : Int) (w : World) (h : Ref w mb mg p c s n f) (hz : szI c s = z) :
    Calls Tryd.prog 21 #[.pointer (some ⟨mb, 0, none⟩)] w fun e w' => e = .returned (.int .i64 z) ∧ w' = w := by
  subst hz; exact (rsize_any mb mg n p c s f w h).mono fun e w' ⟨h1, h2⟩ => ⟨h1, h2.symm⟩
/-- The document's At of a slot. -/
theorem rat_in (mb mg n : Nat) (p c s : Int) (f : Nat → Bool) (i : Nat) (w : World) (h : Ref w mb mg p c s n f) (r : Rt p c s) (hn : slN c = n) (hi : i < n) :
    Calls Tryd.prog 37 #[.pointer (some ⟨mb, 0, none⟩), .int .i64 (i : Nat)] w fun e w' => e = .returned (.tuple #[.int .i64 (256 * p + (i : Int) * szI c s), .bool true]) ∧ ∃ m, w' = w.drewN m := by
  have H : Hid (Ref w mb mg p c s n f) := h
  have b0 := h.c0
  have b3 := h.c3
  obtain ⟨k1, k2, k3⟩ := r.place i (by omega)
  obtain ⟨f1, f2, f3, f4, f5, f6, f7, f8, _⟩ := r.facts
  have hp0 := r.p0
  have hp1 := r.p1
  obtain ⟨z, hz⟩ : ∃ z, szI c s = z := ⟨_, rfl⟩
  have HZ : Hid (szI c s = z) := hz
  rw [hz] at k1 k2 k3 f4 f5 f6 ⊢
  have hp2 : p ≤ 4095 := by omega
  have hn6 : n ≤ 16 := by omega
  have g1 : IntKind.i64.wrap (256 * p) = 256 * p := by rw [IntKind.wrap_i64]; omega
  have g2 : IntKind.i64.wrap ((i : Int) * z) = (i : Int) * z := by rw [IntKind.wrap_i64]; omega
  have g3 : IntKind.i64.wrap (256 * p + (i : Int) * z) = 256 * p + (i : Int) * z := by rw [IntKind.wrap_i64]; omega
  clear h r k3 f3 f6 f7 f8 hp1 hz f1 f2 hn
  go_enter Tryd.func37, Tryd.ntmps37
  go_wp2_with fail
  go_quiet ((go_at_call 21; exact Calls.quiet_of_same (rsize_q mb mg n p c s f z _ (H.out.drewN _) HZ.out)))
  go_wp2
  go_ret2
  exact ⟨rfl, _, rfl⟩
theorem rat_out (mb mg n : Nat) (p c s : Int) (f : Nat → Bool) (i : Int) (w : World) (h : Ref w mb mg p c s n f) (hn : n ≤ 65536) (hi : ¬ (0 ≤ i ∧ i < (n : Int))) :
    Calls Tryd.prog 37 #[.pointer (some ⟨mb, 0, none⟩), .int .i64 i] w fun e w' => e = .returned (.tuple #[.int .i64 0, .bool false]) ∧ w = w' := by
  have b3 := h.c3
  clear h
  rcases Int.lt_or_le i 0 with h0 | h0
  · clear hi
    go_enter Tryd.func37, Tryd.ntmps37
    go_wp2
    go_ret2
    exact ⟨rfl, rfl⟩
  · have h1 : (n : Int) ≤ i := by omega
    clear hi
    go_enter Tryd.func37, Tryd.ntmps37
    go_wp2
    go_ret2
    exact ⟨rfl, rfl⟩
end Go.Proofs.YtmahgdjbgkeecaaDoor
