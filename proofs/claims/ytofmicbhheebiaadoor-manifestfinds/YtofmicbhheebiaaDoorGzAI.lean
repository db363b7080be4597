/- Layer 21: what all laws ask first: the document's example. -/
import Derived.Test.YtofmicbhheebiaaDoorMnN
namespace Go.Proofs.YtofmicbhheebiaaDoor
open Go.RowKit
set_option linter.unusedVariables false
set_option maxRecDepth 4000

set_option maxRecDepth 20000 in
set_option maxHeartbeats 4000000 in
theorem alive21 (w : World) : Calls Tryd.prog 4 #[] w fun e w' => e = .returned (.bool true) ∧ Below w.heap.size w w' := by
  have hok : okM ⟨1, 3, 40⟩ = true := by decide
  have MB : Hid (∀ w : World, Calls Tryd.prog 17 #[.agg #[.int .i64 1, .int .i64 3, .int .i64 40]] w fun e w' => ∃ g, w.heap.size ≤ g ∧ e = .returned (.tuple #[.slice (some ⟨g, 0, none⟩) 64 64, .int .i64 0]) ∧ RowB w' g 5 (manM ⟨1, 3, 40⟩) ∧ Below w.heap.size w w') := fun w => mbytes_ok ⟨1, 3, 40⟩ w hok
  have MR : Hid (∀ (w : World) (g : Nat), RowB w g 5 (manM ⟨1, 3, 40⟩) → Calls Tryd.prog 18 #[.slice (some ⟨g, 0, none⟩) 64 64] w fun e w' => e = .returned (.tuple #[.agg #[.int .i64 1, .int .i64 3, .int .i64 40], .int .i64 0]) ∧ Below w.heap.size w w') := fun w g r => by
    have q := mread_any (some ⟨g, 0, none⟩) 64 64 (manM ⟨1, 3, 40⟩) w (r.isB (manM_allB _)) (manM_len _).symm (by rw [manM_len]; decide) (by rw [manM_len]; decide)
    rw [manM_read hok, manM_right hok] at q
    exact q
  have NX : Hid (∀ w : World, Calls Tryd.prog 19 #[.slice none 0 0, .int .i64 (-1)] w fun e w' => e = .returned (.tuple #[.int .i64 1, .int .i64 0, .int .i64 0]) ∧ Below w.heap.size w w') := fun w => mnext_any none 0 [] (-1) w (.inl rfl) (fun x h => by cases h) (fun x h => by cases h) (by decide)
  have SC : Hid (∀ w : World, Calls Tryd.prog 20 #[.int .i64 1, .int .i64 8] w fun e w' => e = .returned (.int .i64 7) ∧ w = w') := fun w => msector_any 1 8 w
  have zl := manM_len ⟨1, 3, 40⟩
  have z0 : (manM ⟨1, 3, 40⟩).getD 0 0 = 1 := by decide +kernel
  have z4 : (manM ⟨1, 3, 40⟩).getD 4 0 = 3 := by decide +kernel
  have z8 : (manM ⟨1, 3, 40⟩).getD 8 0 = 40 := by decide +kernel
  have z60 : (manM ⟨1, 3, 40⟩).getD 60 0 = 1 := by decide +kernel
  obtain ⟨Z, hZ⟩ : ∃ Z, manM ⟨1, 3, 40⟩ = Z := ⟨_, rfl⟩
  rw [hZ] at MB MR zl z0 z4 z8 z60
  have CZ : Hid (∀ (w : World) (g : Nat), RowB w g 5 Z → w.cell? ⟨g, 0, none⟩ = some (.int .u8 1) ∧ w.cell? ⟨g, 4, none⟩ = some (.int .u8 3) ∧ w.cell? ⟨g, 8, none⟩ = some (.int .u8 40) ∧ w.cell? ⟨g, 60, none⟩ = some (.int .u8 1)) := fun w g r => by
    refine ⟨?_, ?_, ?_, ?_⟩
    · rw [r.cell 0 (by omega), z0]
    · rw [r.cell 4 (by omega), z4]
    · rw [r.cell 8 (by omega), z8]
    · rw [r.cell 60 (by omega), z60]
  clear hZ hok z0 z4 z8 z60 zl
  go_enter Tryd.func4, Tryd.ntmps4
  go_wp2_with fail
  refine Calls.mono (MB.out _) ?_
  rintro e w1 ⟨g, hg, rfl, r1, b1⟩
  have R1 : Hid (RowB w1 g 5 Z) := r1
  have B1 : Hid (Below w.heap.size w w1) := b1
  clear r1 b1 hg
  go_wp2_with fail
  refine Calls.mono (MR.out _ g R1.out) ?_
  rintro e w2 ⟨rfl, b2⟩
  obtain ⟨D, hD, rD, bD⟩ := box21 48 w2 1 3 40
  have HD : Hid _ := hD
  have B2 : Hid (Below w.heap.size w D) := (B1.out.trans (b2.mono B1.out.size)).trans (bD.mono (Nat.le_trans B1.out.size b2.size))
  have R2 : Hid (RowB D g 5 Z) := (R1.out.keep b2).keep bD
  have RD : Hid (D.heap[w2.heap.size]? = some (.cells #[.int .i64 1, .int .i64 3, .int .i64 40] 48 (0, 0))) := rD
  obtain ⟨n2, hn2⟩ : ∃ n, w2.heap.size = n := ⟨_, rfl⟩
  rw [hn2] at RD
  have HN2 : Hid (w2.heap.size = n2) := hn2
  clear hD rD bD b2 hn2
  go_upto_region 3 with (fail)
  rw [HD.out]
  (try rw [HN2.out])
  go_wp2_with fail
  refine Calls.mono (NX.out _) ?_
  rintro e w3 ⟨rfl, b3⟩
  have B3 : Hid (Below w.heap.size w w3) := B2.out.trans (b3.mono B2.out.size)
  obtain ⟨q0, q4, q8, q60⟩ := CZ.out w3 g (R2.out.keep b3)
  obtain ⟨y0, y1, y2⟩ := three21 (by rw [b3.block _ (Array.getElem?_eq_some_iff.1 RD.out).1]; exact RD.out : w3.heap[n2]? = some (.cells #[.int .i64 1, .int .i64 3, .int .i64 40] 48 (0, 0)))
  clear b3
  go_wp2_with (go_at_call 20; refine Calls.mono (SC.out _) ?_; rintro e w' ⟨rfl, rfl⟩)
  go_ret
  exact ⟨rfl, B3.out⟩
end Go.Proofs.YtofmicbhheebiaaDoor

/- Layer 21: at most two manifests in slots, sorted: slices.SortStableFunc by its contract. -/
namespace Go.Proofs.YtofmicbhheebiaaDoor
open Go.RowKit
set_option linter.unusedVariables false
set_option maxRecDepth 4000

/-- The newest one first; of two of the same number as they stand. -/
def sortF : List Fd → List Fd
  | [x, y] => if x.m.s < y.m.s then [y, x] else [x, y]
  | l => l
theorem mcmp_any (x y : Fd) (w : World) : Calls Tryd.prog 46 #[x.v, y.v] w fun e w' => e = .returned (.int .i64 (cmpI y.m.s x.m.s)) ∧ Below w.heap.size w w' := by
  obtain ⟨D, hD, rD, bD, sD⟩ := boxF21 50 w x
  obtain ⟨E, hE, rE, bE, zE⟩ := boxF21 50 D y
  rw [sD] at rE
  have rD' : E.heap[w.heap.size]? = some (.cells x.cs 50 (0, 0)) := by rw [bE.block _ (by omega)]; exact rD
  have B : Hid (Below w.heap.size w E) := bD.trans (bE.mono (by omega))
  have BS : Hid (∀ w, Calls Tryd.prog 44 #[y.v, x.v] w fun e w' => e = .returned (.int .i64 (cmpI y.m.s x.m.s)) ∧ Below w.heap.size w w') := fun w => mbyseq_any y x w
  obtain ⟨c, hc⟩ : ∃ c, cmpI y.m.s x.m.s = c := ⟨_, rfl⟩
  rw [hc] at BS ⊢
  clear hc
  obtain ⟨l, s, f, n⟩ := x
  obtain ⟨l', s', f', n'⟩ := y
  unfold Fd.cs at rD' rE hD hE
  obtain ⟨x0, x1, x2, x3⟩ := four21 rD'
  obtain ⟨y0, y1, y2, y3⟩ := four21 rE
  have HD : Hid _ := hD
  have HE : Hid _ := hE
  have HS : Hid (D.heap.size = w.heap.size + 1) := sD
  unfold Fd.v Fd.cs at BS
  clear hD rD bD hE rE bE zE rD' sD
  unfold Fd.v Fd.cs
  go_enter Tryd.func46, Tryd.ntmps46
  go_upto_region 1 with (fail)
  rw [HD.out, HE.out]
  (try rw [HS.out])
  go_wp2_with (go_at_call 44; refine Calls.mono (BS.out _) ?_; rintro e w2 ⟨rfl, b2⟩; have B2 : Hid (Below w.heap.size w w2) := B.out.trans (b2.mono B.out.size))
  go_ret
  exact ⟨rfl, B2.out⟩

theorem cellsF_set (r : Fd) : ∀ (l : List Fd) (i : Nat), i < l.length → ((((cellsF21 l).set (i * 4) (.int .i64 r.l)).set (i * 4 + 1) (.int .i64 r.m.s)).set (i * 4 + 2) (.int .i64 r.m.f)).set (i * 4 + 3) (.int .i64 r.m.n) = cellsF21 (l.set i r)
  | q :: l, 0, _ => rfl
  | q :: l, i + 1, h => by
    have := cellsF_set r l i (by simpa using h)
    rw [show (i + 1) * 4 = i * 4 + 4 by omega]
    show .int .i64 q.l :: .int .i64 q.m.s :: .int .i64 q.m.f :: .int .i64 q.m.n :: ((((cellsF21 l).set (i * 4) (.int .i64 r.l)).set (i * 4 + 1) (.int .i64 r.m.s)).set (i * 4 + 2) (.int .i64 r.m.f)).set (i * 4 + 3) (.int .i64 r.m.n) = _
    rw [this]
    rfl
variable {T : TypeId}
theorem Ow.put {w w' : World} {B g c : Nat} {l l' : List Fd} (h : Ow T w B (some ⟨g, 0, none⟩) l c) (hl : l'.length = l.length) (k : ∀ cur : Array Value, w.heap[g]? = some (.cells cur T (0, 0)) → cur.toList.take (l.length * 4) = cellsF21 l → ∃ cur' : Array Value, w'.heap[g]? = some (.cells cur' T (0, 0)) ∧ cur'.size = cur.size ∧ cur'.toList.take (l.length * 4) = cellsF21 l') : Ow T w' B (some ⟨g, 0, none⟩) l' c := by
  obtain ⟨h0, ⟨h1, _⟩ | ⟨g', c', cur, h1, hb, h2, h3, h4, h5, h6⟩⟩ := h
  · cases h1
  · cases h1
    obtain ⟨cur', k1, k2, k3⟩ := k cur h2 h6
    refine ⟨by rw [cellsF21_len], .inr ⟨g, c, cur', by rw [hl], hb, k1, by omega, h4, by omega, by rw [hl]; exact k3⟩⟩
/-- A row put in the place of another. -/
def layWF (w : World) (g o : Nat) (r : Fd) : World := (((w.setCell ⟨g, o, none⟩ (.int .i64 r.l)).setCell ⟨g, o + 1, none⟩ (.int .i64 r.m.s)).setCell ⟨g, o + 2, none⟩ (.int .i64 r.m.f)).setCell ⟨g, o + 3, none⟩ (.int .i64 r.m.n)
theorem layWF_only (w : World) (g o : Nat) (r : Fd) : Only g w (layWF w g o r) :=
  (((Only.set g o _ w).trans (Only.set g (o + 1) _ _)).trans (Only.set g (o + 2) _ _)).trans (Only.set g (o + 3) _ _)
theorem Ow.set {w : World} {B g c : Nat} {l : List Fd} (h : Ow T w B (some ⟨g, 0, none⟩) l c) (i : Nat) (hi : i < l.length) (r : Fd) : Ow T (layWF w g (i * 4) r) B (some ⟨g, 0, none⟩) (l.set i r) c := by
  refine h.put (by simp) (fun cur hc hk => ?_)
  have h1 := heap_setCell_same w g (i * 4) _ _ (.int .i64 r.l) hc
  have h2 := heap_setCell_same _ g (i * 4 + 1) _ _ (.int .i64 r.m.s) h1
  have h3 := heap_setCell_same _ g (i * 4 + 2) _ _ (.int .i64 r.m.f) h2
  have h4 := heap_setCell_same _ g (i * 4 + 3) _ _ (.int .i64 r.m.n) h3
  refine ⟨_, h4, by simp, ?_⟩
  rw [Array.toList_setIfInBounds, List.take_set, Array.toList_setIfInBounds, List.take_set, Array.toList_setIfInBounds, List.take_set, Array.toList_setIfInBounds, List.take_set, hk, cellsF_set r l i hi]
theorem Ow.two {w : World} {B g c : Nat} {x y : Fd} (h : Ow T w B (some ⟨g, 0, none⟩) [x, y] c) : w.cell? ⟨g, 0, none⟩ = some (.int .i64 x.l) ∧ w.cell? ⟨g, 1, none⟩ = some (.int .i64 x.m.s) ∧ w.cell? ⟨g, 2, none⟩ = some (.int .i64 x.m.f) ∧ w.cell? ⟨g, 3, none⟩ = some (.int .i64 x.m.n) ∧ w.cell? ⟨g, 4, none⟩ = some (.int .i64 y.l) ∧ w.cell? ⟨g, 5, none⟩ = some (.int .i64 y.m.s) ∧ w.cell? ⟨g, 6, none⟩ = some (.int .i64 y.m.f) ∧ w.cell? ⟨g, 7, none⟩ = some (.int .i64 y.m.n) := by
  obtain ⟨g', e, _, _, a0, a1, a2, a3⟩ := h.cells 0 (by simp)
  cases e
  obtain ⟨g'', e, _, _, b0, b1, b2, b3⟩ := h.cells 1 (by simp)
  cases e
  exact ⟨a0, a1, a2, a3, b0, b1, b2, b3⟩
theorem Ow.twoF {w : World} {B g c : Nat} {l : List Fd} (h : Ow T w B (some ⟨g, 0, none⟩) l c) (i : Nat) : w.frozen? ⟨g, i, none⟩ = false := by
  obtain ⟨cur, hc⟩ := h.kind g rfl
  exact frozen_of_row _ _ i _ _ hc
theorem Ow.swap {w : World} {B g c : Nat} {x y : Fd} (h : Ow T w B (some ⟨g, 0, none⟩) [x, y] c) : Ow T (layWF (layWF w g 4 x) g 0 y) B (some ⟨g, 0, none⟩) [y, x] c :=
  (h.set 1 (by simp) x).set 0 (by simp) y

set_option maxRecDepth 20000 in
set_option maxHeartbeats 4000000 in
theorem mins_few (a : Option Addr) (c n : Nat) (hn : n ≤ 1) (w : World) :
    Calls Tryd.prog 72 #[.slice a n c, .int .i64 0, .int .i64 (n : Nat), .func (.func 46) #[] #[]] w fun e w' => e = .returned (.tuple #[]) ∧ w = w' := by
  have n1 : ¬ (1 : Int) < (n : Int) := by omega
  go_enter Tryd.func72, Tryd.ntmps72
  go_wp2
  refine wp_loop_rounds 1 ?_
  rw [rounds_succ]
  go_wp2
  go_end0
  exact ⟨rfl, rfl⟩
set_option maxRecDepth 20000 in
set_option maxHeartbeats 4000000 in
theorem mstable_few (a : Option Addr) (c n : Nat) (hn : n ≤ 1) (w : World) :
    Calls Tryd.prog 45 #[.slice a n c, .func (.func 46) #[] #[]] w fun e w' => e = .returned (.tuple #[]) ∧ w = w' := by
  have n20 : ¬ (20 : Int) ≤ (n : Int) := by omega
  have n20' : ¬ (20 : Int) < (n : Int) := by omega
  have IN : Hid (∀ w, Calls Tryd.prog 72 #[.slice a n c, .int .i64 0, .int .i64 (n : Nat), .func (.func 46) #[] #[]] w fun e w' => e = .returned (.tuple #[]) ∧ w = w') := fun w => mins_few a c n hn w
  have ST : Hid (∀ w, Calls Tryd.prog 64 #[.slice a n c, .int .i64 (n : Nat), .func (.func 46) #[] #[]] w fun e w' => e = .returned (.tuple #[]) ∧ w = w') := fun w => by
    go_enter Tryd.func64, Tryd.ntmps64
    go_wp2
    refine wp_loop_rounds 1 ?_
    rw [rounds_succ]
    go_wp2_with (go_at_call 72; refine Calls.mono (IN.out _) ?_; rintro e w2 ⟨rfl, rfl⟩)
    refine wp_loop_rounds 1 ?_
    rw [rounds_succ]
    go_wp2
    go_end0
    exact ⟨rfl, rfl⟩
  clear IN n20 n20' hn
  go_enter Tryd.func45, Tryd.ntmps45
  go_wp2_with (go_at_call 64; refine Calls.mono (ST.out _) ?_; rintro e w2 ⟨rfl, rfl⟩)
  go_end0
  exact ⟨rfl, rfl⟩
end Go.Proofs.YtofmicbhheebiaaDoor
