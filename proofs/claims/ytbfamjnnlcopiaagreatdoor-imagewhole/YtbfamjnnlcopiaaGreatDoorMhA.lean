/- The document's span: its Pages, New and Of -/
import Derived.Test.YtbfamjnnlcopiaaGreatDoorSpB
import Derived.Test.YtbfamjnnlcopiaaGreatDoorGzAF
namespace Go.Proofs.YtbfamjnnlcopiaaGreatDoor
open Go.RowKit
set_option linter.unusedVariables false
set_option maxRecDepth 4000


def cellsT (f : Nat → Bool) (n : Nat) : List Value := (List.range n).map fun i => Value.bool (f i)
theorem cellsT_at (f : Nat → Bool) (n i : Nat) (h : i < n) : (cellsT f n)[i]? = some (.bool (f i)) := by simp [cellsT, h]
/-- The document's span: a box mb, a row mg. -/
structure Ref (w : World) (mb mg : Nat) (p c s : Int) (n : Nat) (f : Nat → Bool) : Prop where
  box : w.heap[mb]? = some (.cells #[.int .i64 p, .int .i64 c, .int .i64 s, .slice (some ⟨mg, 0, none⟩) n n] 101 (0, 0))
  row : w.heap[mg]? = some (.cells (cellsT f n).toArray 4 (0, 0))
theorem Ref.lt {w : World} {mb mg n : Nat} {p c s : Int} {f : Nat → Bool} (h : Ref w mb mg p c s n f) : mb < w.heap.size ∧ mg < w.heap.size := ⟨(Array.getElem?_eq_some_iff.1 h.box).1, (Array.getElem?_eq_some_iff.1 h.row).1⟩
theorem Ref.apart {w : World} {mb mg n : Nat} {p c s : Int} {f : Nat → Bool} (h : Ref w mb mg p c s n f) : mb ≠ mg := by
  rintro rfl
  have h1 := h.box
  rw [h.row] at h1
  simp at h1
theorem Ref.keep {w w' : World} {mb mg n : Nat} {p c s : Int} {f : Nat → Bool} (h : Ref w mb mg p c s n f) (hb : Below w.heap.size w w') : Ref w' mb mg p c s n f :=
  ⟨by rw [hb.block mb h.lt.1]; exact h.box, by rw [hb.block mg h.lt.2]; exact h.row⟩
theorem Ref.beside {w w' : World} {mb mg n o : Nat} {p c s : Int} {f : Nat → Bool} (h : Ref w mb mg p c s n f) (ho : Only o w w') (h1 : mb ≠ o) (h2 : mg ≠ o) : Ref w' mb mg p c s n f :=
  ⟨by rw [ho.block mb h1]; exact h.box, by rw [ho.block mg h2]; exact h.row⟩
theorem Ref.drewN {w : World} {mb mg n : Nat} {p c s : Int} {f : Nat → Bool} (h : Ref w mb mg p c s n f) (m : Nat) : Ref (w.drewN m) mb mg p c s n f := ⟨h.box, h.row⟩
theorem Ref.drew {w : World} {mb mg n : Nat} {p c s : Int} {f : Nat → Bool} (h : Ref w mb mg p c s n f) : Ref w.drew mb mg p c s n f := ⟨h.box, h.row⟩
theorem Ref.c0 {w : World} {mb mg n : Nat} {p c s : Int} {f : Nat → Bool} (h : Ref w mb mg p c s n f) : w.cell? ⟨mb, 0, none⟩ = some (.int .i64 p) := cell_of_row _ _ 0 _ _ _ h.box
theorem Ref.c1 {w : World} {mb mg n : Nat} {p c s : Int} {f : Nat → Bool} (h : Ref w mb mg p c s n f) : w.cell? ⟨mb, 1, none⟩ = some (.int .i64 c) := cell_of_row _ _ 1 _ _ _ h.box
theorem Ref.c2 {w : World} {mb mg n : Nat} {p c s : Int} {f : Nat → Bool} (h : Ref w mb mg p c s n f) : w.cell? ⟨mb, 2, none⟩ = some (.int .i64 s) := cell_of_row _ _ 2 _ _ _ h.box
theorem Ref.c3 {w : World} {mb mg n : Nat} {p c s : Int} {f : Nat → Bool} (h : Ref w mb mg p c s n f) : w.cell? ⟨mb, 3, none⟩ = some (.slice (some ⟨mg, 0, none⟩) n n) := cell_of_row _ _ 3 _ _ _ h.box
theorem Ref.cell {w : World} {mb mg n : Nat} {p c s : Int} {f : Nat → Bool} (h : Ref w mb mg p c s n f) (i : Nat) (hi : i < n) : w.cell? ⟨mg, i, none⟩ = some (.bool (f i)) := by
  rw [cell_of_row _ _ i _ _ _ h.row]; simpa using cellsT_at f n i hi
theorem Ref.thawed {w : World} {mb mg n : Nat} {p c s : Int} {f : Nat → Bool} (h : Ref w mb mg p c s n f) (i : Nat) : w.frozen? ⟨mg, i, none⟩ = false := frozen_of_row _ _ _ _ _ h.row
theorem heap_set {w : World} {g j : Nat} {v : Value} {cs : Array Value} {t : TypeId} (h : w.heap[g]? = some (.cells cs t (0, 0))) : (w.setCell ⟨g, j, none⟩ v).heap[g]? = some (.cells (cs.setIfInBounds j v) t (0, 0)) := by
  simp only [World.setCell, Array.getElem?_modify, h]
  simp
theorem Ref.set {w : World} {mb mg n : Nat} {p c s : Int} {f : Nat → Bool} (h : Ref w mb mg p c s n f) (i : Nat) (v : Bool) : Ref (w.setCell ⟨mg, i, none⟩ (.bool v)) mb mg p c s n (put f i v) := by
  refine ⟨by rw [(Only.set mg i _ w).block mb h.apart]; exact h.box, ?_⟩
  rw [heap_set h.row]
  have e : (cellsT f n).set i (.bool v) = cellsT (put f i v) n := by
    apply List.ext_getElem
    · simp [cellsT]
    · intro j h1 h2
      simp [cellsT, List.getElem_set, put]
      by_cases e : i = j
      · subst e; simp
      · simp [e, Ne.symm e]
  simp [← e]
theorem rpages_any (c s : Int) (w : World) (g : Nat) (hg : pgsN c s = g) :
    Calls Tryz.prog 32 #[.int .i64 c, .int .i64 s] w fun e w' => e = .returned (.int .i64 (g : Nat)) ∧ w = w' := by
  subst hg
  by_cases hc : c = 7
  · subst hc
    rw [show pgsN 7 s = pagesN s from rfl]
    go_enter Tryz.func32, Tryz.ntmps32
    go_wp2_with (go_at_call 70; refine (qpages_any s _).mono ?_; rintro e w' ⟨rfl, rfl⟩)
    go_ret
    exact ⟨rfl, rfl⟩
  · have hq : (c == 7) = false := beq_eq_false_iff_ne.2 hc
    have E : Hid (pgsN c s = 1) := by show _ = _; unfold pgsN; rw [if_neg hc]
    rw [E.out]
    clear hc
    go_enter Tryz.func32, Tryz.ntmps32
    go_wp2
    go_ret
    exact ⟨rfl, rfl⟩

theorem Tryz.info4 : (Tryz.prog.info? 4).map (fun i => (i.zero, i.size, i.bytes)) = some (some (.bool false), 1, 1) := by kernel_rfl
theorem made_T (n : Nat) : madeCells #[.bool false] n = (cellsT (fun _ => false) n).toArray := by
  apply Array.toList_inj.1
  apply List.ext_getElem
  · simp [madeCells, cellsT]
  · intro i h1 h2
    simp [madeCells, cellsT, Nat.mod_one]
theorem make_T (w : World) (n : Nat) (hn : n ≤ 1000000) : (Instr.makeSlice 81 (.int .i64 (n : Nat)) (.int .i64 (n : Nat))).run Tryz.prog w = .ok (.slice (some ⟨w.heap.size, 0, none⟩) n n) (w.alloc (.cells (cellsT (fun _ => false) n).toArray 4)) := by
  obtain ⟨i0, hi0, hz0, hs0, hb0⟩ := info_parts Tryz.info4
  have h := run_make (P := Tryz.prog) w 81 4 i0 _ Tryz.underlying81 hi0 hz0 .i64 .i64 (n : Int) (n : Int) (by omega) (Int.le_refl _) (by rw [hb0]; omega) (by omega)
  rw [h, hs0]
  simp only [Int.toNat_natCast, Value.cells, Nat.mul_one, made_T]
theorem qslots_rt (p c s : Int) (n : Nat) (w : World) (r : Rt p c s) (hn : slN c = n) :
    Calls Tryz.prog 93 #[.int .i64 c] w fun e w' => e = .returned (.int .i64 (n : Nat)) ∧ w = w' := by
  subst hn
  have := qslots_any c w
  rw [r.facts.2.2.1] at this
  exact this
theorem rnew_ok (p c s : Int) (n : Nat) (w : World) (r : Rt p c s) (hn : slN c = n) :
    Calls Tryz.prog 59 #[.int .i64 p, .int .i64 c, .int .i64 s] w fun e w' => ∃ mb mg, e = .returned (.tuple #[.pointer (some ⟨mb, 0, none⟩), .int .i64 0]) ∧ Ref w' mb mg p c s n (fun _ => false) ∧ Below w.heap.size w w' ∧ w.heap.size ≤ mb ∧ w.heap.size ≤ mg := by
  have R : Hid (Rt p c s) := r
  have HN : Hid (slN c = n) := hn
  have n16 : n ≤ 16 := by have := r.facts.2.1; omega
  have MK : ∀ w : World, (Instr.makeSlice 81 (.int .i64 (n : Nat)) (.int .i64 (n : Nat))).run Tryz.prog w = .ok (.slice (some ⟨w.heap.size, 0, none⟩) n n) (w.alloc (.cells (cellsT (fun _ => false) n).toArray 4)) := fun w => make_T w n (by omega)
  have RN : Hid (Ref ((w.alloc (.cells (cellsT (fun _ => false) n).toArray 4)).alloc (.cells #[.int .i64 p, .int .i64 c, .int .i64 s, .slice (some ⟨w.heap.size, 0, none⟩) n n] 101)) (w.heap.size + 1) w.heap.size p c s n (fun _ => false)) := by
    refine ⟨?_, ?_⟩
    · have := Go.heap_alloc_new (w.alloc (.cells (cellsT (fun _ => false) n).toArray 4)) (.cells #[.int .i64 p, .int .i64 c, .int .i64 s, .slice (some ⟨w.heap.size, 0, none⟩) n n] 101)
      rwa [World.size_alloc] at this
    · rw [Below.heap_alloc _ _ _ (by simp)]; exact Go.heap_alloc_new w _
  have BN : Hid (Below w.heap.size w ((w.alloc (.cells (cellsT (fun _ => false) n).toArray 4)).alloc (.cells #[.int .i64 p, .int .i64 c, .int .i64 s, .slice (some ⟨w.heap.size, 0, none⟩) n n] 101))) := ((Below.refl _ w).alloc (Nat.le_refl _) _).alloc (by simp) _
  have h0 := r.c0
  have h7 := r.c7
  have hp0 := r.p0
  have hp1 := r.p1
  have hpg := pgsN_le c s
  obtain ⟨G, hG⟩ : ∃ G, pgsN c s = G := ⟨_, rfl⟩
  have HG : Hid (pgsN c s = G) := hG
  rw [hG] at hp1 hpg
  have g1 : IntKind.i64.wrap (4096 - (G : Int)) = 4096 - (G : Int) := by rw [IntKind.wrap_i64]; omega
  have h4 : ¬ (4096 - (G : Int) < p) := by omega
  by_cases hc : c = 7
  · subst hc
    have HO : Hid (ofI s = 7) := r.lg rfl
    clear r hn hG
    go_enter Tryz.func59, Tryz.ntmps59
    go_wp2_with (first
      | (go_at_call 92; refine (qof_any s _).mono ?_; rw [HO.out]; rintro e w' ⟨rfl, rfl⟩)
      | (go_at_call 32; refine (rpages_any 7 s _ G HG.out).mono ?_; rintro e w' ⟨rfl, rfl⟩)
      | (go_at_call 93; refine (qslots_rt p 7 s n _ R.out HN.out).mono ?_; rintro e w' ⟨rfl, rfl⟩))
    go_ret2
    exact ⟨_, _, rfl, RN.out, BN.out, by omega, Nat.le_refl _⟩
  · obtain rfl : s = 0 := r.sm (by omega)
    have hq : (c == 7) = false := beq_eq_false_iff_ne.2 hc
    have hc7 : c < 7 := by omega
    clear r hn hG hc
    go_enter Tryz.func59, Tryz.ntmps59
    go_wp2_with (first
      | (go_at_call 32; refine (rpages_any c 0 _ G HG.out).mono ?_; rintro e w' ⟨rfl, rfl⟩)
      | (go_at_call 93; refine (qslots_rt p c 0 n _ R.out HN.out).mono ?_; rintro e w' ⟨rfl, rfl⟩))
    go_ret2
    exact ⟨_, _, rfl, RN.out, BN.out, by omega, Nat.le_refl _⟩
theorem rnew_bad (p c s : Int) (x : Int) (w : World) (hx : newE p c s = x) (h0 : x ≠ 0) :
    Calls Tryz.prog 59 #[.int .i64 p, .int .i64 c, .int .i64 s] w fun e w' => e = .returned (.tuple #[.pointer none, .int .i64 x]) ∧ w = w' := by
  rcases newE_cases p c s with ⟨h1, e⟩ | ⟨k0, k7, h1, e⟩ | ⟨k0, k7, h1, h2, h3, e⟩ | ⟨r, e⟩
  · obtain rfl : x = 11 := by rw [← hx, e]
    clear e hx h0
    rcases h1 with h1 | h1
    · go_enter Tryz.func59, Tryz.ntmps59
      go_wp2
      go_ret2
      exact ⟨rfl, rfl⟩
    · have h2 : ¬ c < 0 := by omega
      go_enter Tryz.func59, Tryz.ntmps59
      go_wp2
      go_ret2
      exact ⟨rfl, rfl⟩
  · obtain rfl : x = 2 := by rw [← hx, e]
    clear e hx h0
    rcases h1 with ⟨h1, h2⟩ | ⟨rfl, h2⟩
    · have hs : (s == 0) = false := beq_eq_false_iff_ne.2 h2
      have hs' : (s != 0) = true := by rw [bne, hs]; rfl
      clear h2
      go_enter Tryz.func59, Tryz.ntmps59
      go_wp2
      go_ret2
      exact ⟨rfl, rfl⟩
    · obtain ⟨k, hk⟩ : ∃ k, ofI s = k := ⟨_, rfl⟩
      have HK : Hid (ofI s = k) := hk
      rw [hk] at h2
      have hs : (k == 7) = false := beq_eq_false_iff_ne.2 h2
      have hs' : (k != 7) = true := by rw [bne, hs]; rfl
      clear h2 hk
      go_enter Tryz.func59, Tryz.ntmps59
      go_wp2_with (go_at_call 92; refine (qof_any s _).mono ?_; rw [HK.out]; rintro e w' ⟨rfl, rfl⟩)
      go_ret2
      exact ⟨rfl, rfl⟩
  · obtain rfl : x = 10 := by rw [← hx, e]
    clear e hx h0
    have hpg := pgsN_le c s
    obtain ⟨G, hG⟩ : ∃ G, pgsN c s = G := ⟨_, rfl⟩
    have HG : Hid (pgsN c s = G) := hG
    rw [hG] at h3 hpg
    have g1 : IntKind.i64.wrap (4096 - (G : Int)) = 4096 - (G : Int) := by rw [IntKind.wrap_i64]; omega
    have h3' : p < 0 ∨ (¬ p < 0 ∧ 4096 - (G : Int) < p) := by omega
    clear h3 hG
    by_cases hc : c = 7
    · subst hc
      have HO : Hid (ofI s = 7) := h2 rfl
      clear h1 h2
      rcases h3' with h4 | ⟨h4, h5⟩
      all_goals
        go_enter Tryz.func59, Tryz.ntmps59
        go_wp2_with (first
          | (go_at_call 92; refine (qof_any s _).mono ?_; rw [HO.out]; rintro e w' ⟨rfl, rfl⟩)
          | (go_at_call 32; refine (rpages_any 7 s _ G HG.out).mono ?_; rintro e w' ⟨rfl, rfl⟩))
        go_ret2
        exact ⟨rfl, rfl⟩
    · obtain rfl : s = 0 := h1 (by omega)
      have hq : (c == 7) = false := beq_eq_false_iff_ne.2 hc
      have hc7 : c < 7 := by omega
      clear h1 h2 hc
      rcases h3' with h4 | ⟨h4, h5⟩
      all_goals
        go_enter Tryz.func59, Tryz.ntmps59
        go_wp2_with (go_at_call 32; refine (rpages_any c 0 _ G HG.out).mono ?_; rintro e w' ⟨rfl, rfl⟩)
        go_ret2
        exact ⟨rfl, rfl⟩
  · exact absurd (hx.symm.trans e) h0


theorem rof_bad (p c s : Int) (a : Option Addr) (n cap : Nat) (x : Int) (w : World) (hx : newE p c s = x) (h0 : x ≠ 0) :
    Calls Tryz.prog 19 #[.agg #[.int .i64 p, .int .i64 c, .int .i64 s, .slice a n cap]] w fun e w' => e = .returned (.tuple #[.pointer none, .int .i64 x]) ∧ Below w.heap.size w w' := by
  obtain ⟨D, hD, zD, rD, bD⟩ := dbox w p c s a n cap
  have HD : Hid (w.alloc (.cells #[.int .i64 p, .int .i64 c, .int .i64 s, .slice a n cap] 33) = D) := hD
  have BD : Hid (Below w.heap.size w D) := bD
  have c0 := dcell0 rD
  have c1 := dcell1 rD
  have c2 := dcell2 rD
  have HX : Hid (newE p c s = x) := hx
  have hne : (x == 0) = false := beq_eq_false_iff_ne.2 h0
  have hne' : (x != 0) = true := by rw [bne, hne]; rfl
  clear hD zD rD bD hx
  go_enter Tryz.func19, Tryz.ntmps19
  go_upto_region 1 with (fail)
  rw [HD.out]
  go_wp2_with (go_at_call 59; refine (rnew_bad p c s x D HX.out h0).mono ?_; rintro e w' ⟨rfl, rfl⟩)
  go_ret2
  exact ⟨rfl, BD.out⟩
/-- What the document's Of leaves. -/
def ROp (w : World) (p c s : Int) (n : Nat) (l : List Int) (r : Bool) (e : Ending) (w' : World) : Prop :=
  Below w.heap.size w w' ∧ ((r = false ∧ e = .returned (.tuple #[.pointer none, .int .i64 4])) ∨ (r = true ∧ ∃ mb mg, e = .returned (.tuple #[.pointer (some ⟨mb, 0, none⟩), .int .i64 0]) ∧ Ref w' mb mg p c s n (fOf l) ∧ w.heap.size ≤ mb ∧ w.heap.size ≤ mg))
set_option maxRecDepth 20000 in
set_option maxHeartbeats 4000000 in
theorem rof_any (p c s : Int) (a : Option Addr) (cap : Nat) (l : List Int) (n : Nat) (r : Bool) (w : World) (hI : IsI w a l) (hm : l.length ≤ maxLen) (hx : newE p c s = 0) (hn : slN c = n) (hr : okL n (-1) l = r) :
    Calls Tryz.prog 19 #[.agg #[.int .i64 p, .int .i64 c, .int .i64 s, .slice a l.length cap]] w (ROp w p c s n l r) := by
  obtain ⟨D, hD, zD, rD, bD⟩ := dbox w p c s a l.length cap
  have HD : Hid (w.alloc (.cells #[.int .i64 p, .int .i64 c, .int .i64 s, .slice a l.length cap] 33) = D) := hD
  have BD : Hid (Below w.heap.size w D) := bD
  have RD : Hid (D.heap[w.heap.size]? = some (.cells (dcells p c s a l.length cap) 33 (0, 0))) := rD
  have ID : Hid (IsI D a l) := hI.keep bD
  have RT : Hid (Rt p c s) := newE_rt hx
  have n16 : n ≤ 16 := by have := RT.out.facts.2.1; omega
  have c0 := dcell0 rD
  have c1 := dcell1 rD
  have c2 := dcell2 rD
  have HN : Hid (slN c = n) := hn
  have HR : Hid (okL n (-1) l = r) := hr
  unfold maxLen at hm
  clear hD zD rD bD hx hn hr hI
  go_enter Tryz.func19, Tryz.ntmps19
  go_upto_region 1 with (fail)
  rw [HD.out]
  go_wp2_with fail
  refine (rnew_ok p c s n D RT.out HN.out).mono ?_
  rintro e w1 ⟨mb, mg, rfl, r1, b1, g1, g2⟩
  have R1 : Hid (Ref w1 mb mg p c s n (fOf (l.take 0))) := by show Ref _ _ _ _ _ _ _ _; rw [List.take_zero, fOf_nil]; exact r1
  have B1 : Hid (Below D.heap.size D w1) := b1
  have d3 := bcell b1 (dcell3 RD.out)
  clear r1 b1 c0 c1 c2
  go_wp2
  go_loopw [24] (fun iv wr => ∃ (k : Nat) (t : Int), k ≤ l.length ∧ iv = .int .i64 (k : Nat) ∧ t = prevI l k ∧ -1 ≤ t ∧ okL n (-1) l = okL n t (l.drop k) ∧ Ref wr mb mg p c s n (fOf (l.take k)) ∧ Below D.heap.size D wr) (fun iv _ => l.length - (intOf iv).toNat)
  case atStart => exact ⟨0, -1, Nat.zero_le _, rfl, rfl, by omega, rfl, R1.out, B1.out⟩
  case round =>
    clear R1 B1 d3
    obtain ⟨k, t, hk, rfl, ht, t0, hO, hRf, hBl⟩ := hrel
    rename World => wr
    have HTt : Hid (t = prevI l k) := ht
    have HO : Hid (okL n (-1) l = okL n t (l.drop k)) := hO
    have RF : Hid (Ref wr mb mg p c s n (fOf (l.take k))) := hRf
    have BL : Hid (Below D.heap.size D wr) := hBl
    have BW : Hid (Below w.heap.size w wr) := BD.out.trans (hBl.mono BD.out.size)
    have d3 := bcell hBl (dcell3 RD.out)
    have m3 := hRf.c3
    clear ht hO hRf hBl
    by_cases hlt : k < l.length
    · obtain ⟨hin, h0 | ⟨ba, off, rfl, hba, hc⟩⟩ := ID.out
      · rw [h0] at hlt; simp at hlt
      have hcell := (BL.out.cell (p := ⟨ba, off + k, none⟩) hba).trans (hc k hlt)
      have hxb := AllI.at (show AllI l from hin) k
      have ST : Hid (okL n t (l.drop k) = (decide (t < l.getD k 0 ∧ l.getD k 0 < (n : Int)) && okL n (l.getD k 0) (l.drop (k + 1)))) := okL_step n t l k hlt
      have FM : Hid (0 ≤ l.getD k 0 → (fun x => if x = (l.getD k 0).toNat then true else fOf (l.take k) x) = fOf (l.take (k + 1))) := fun h0 => fOf_more l k hlt h0
      have PV : Hid (prevI l (k + 1) = l.getD k 0) := prevI_succ l k
      obtain ⟨x, hx⟩ : ∃ x, l.getD k 0 = x := ⟨_, rfl⟩
      rw [hx] at hcell hxb ST FM PV
      have BAD : Hid (¬ (t < x ∧ x < (n : Int)) → r = false) := fun h => by rw [← HR.out, HO.out, ST.out, decide_eq_false h, Bool.false_and]
      have HC : Hid (∀ i, i < l.length → D.cell? ⟨ba, off + i, none⟩ = some (.int .i64 (l.getD i 0))) := hc
      clear hx hc hin
      by_cases hx0 : x < 0
      · have E : Hid (r = false) := BAD.out (by omega)
        go_wp2
        go_ret2
        exact ⟨BW.out, .inl ⟨E.out, rfl⟩⟩
      · by_cases hxn : (n : Int) ≤ x
        · have E : Hid (r = false) := BAD.out (by omega)
          go_wp2
          go_ret2
          exact ⟨BW.out, .inl ⟨E.out, rfl⟩⟩
        · obtain ⟨j, rfl⟩ : ∃ j : Nat, x = j := ⟨x.toNat, by omega⟩
          have hjn : j < n := by omega
          have mj := RF.out.cell j hjn
          have mz := RF.out.thawed j
          have RS : Hid (Ref (wr.setCell ⟨mg, j, none⟩ (.bool true)) mb mg p c s n (fOf (l.take (k + 1)))) := by
            have q := RF.out.set j true
            have e : put (fOf (l.take k)) j true = fOf (l.take (k + 1)) := by rw [← FM.out (by omega)]; rfl
            rw [e] at q
            exact q
          have BS : Hid (Below D.heap.size D (wr.setCell ⟨mg, j, none⟩ (.bool true))) := BL.out.setCell g2 _
          by_cases hk0 : k = 0
          · have NO : Hid (okL n (-1) l = okL n (j : Int) (l.drop (k + 1))) := by
              show _ = _
              have e : t = -1 := by rw [HTt.out, hk0]; rfl
              rw [HO.out, ST.out, decide_eq_true (by omega), Bool.true_and]
            have g0 : ¬ (0 : Int) < (k : Int) := by omega
            clear hk0
            go_wp2
            go_roundw
            case rel => exact ⟨k + 1, (j : Int), by omega, by go_num, PV.out.symm, by omega, NO.out, RS.out, BS.out⟩
            case measure => simp [intOf]; omega
          · obtain ⟨i, hi⟩ : ∃ i : Nat, k = i + 1 := ⟨k - 1, by omega⟩
            have hcell2 := (BL.out.cell (p := ⟨ba, off + i, none⟩) hba).trans (HC.out i (by omega))
            have PT : Hid (t = l.getD i 0) := by show _ = _; rw [HTt.out, hi]; exact prevI_succ l i
            rw [← PT.out] at hcell2
            have g0 : (0 : Int) < (k : Int) := by omega
            have gi : (k : Int) - 1 = (i : Int) := by omega
            have gl : i < l.length := by omega
            have GH : Hid (k = i + 1) := hi
            clear hi hk0
            by_cases hle : (j : Int) ≤ t
            · have E : Hid (r = false) := BAD.out (by omega)
              go_wp2
              go_ret2
              exact ⟨BW.out, .inl ⟨E.out, rfl⟩⟩
            · have NO : Hid (okL n (-1) l = okL n (j : Int) (l.drop (k + 1))) := by
                show _ = _
                rw [HO.out, ST.out, decide_eq_true (by omega), Bool.true_and]
              go_wp2
              go_roundw
              case rel => exact ⟨k + 1, (j : Int), by omega, by go_num, PV.out.symm, by omega, NO.out, RS.out, BS.out⟩
              case measure => simp [intOf]; omega
    · obtain rfl : k = l.length := by omega
      have E : Hid (r = true) := by show _ = _; rw [← HR.out, HO.out]; exact okL_end _ _ _ _ (Nat.le_refl _)
      have F : Hid (Ref wr mb mg p c s n (fOf l)) := by have q := RF.out; rw [List.take_length] at q; exact q
      have Z : Hid (w.heap.size ≤ D.heap.size) := BD.out.size
      go_wp2
      go_ret2
      exact ⟨BW.out, .inr ⟨E.out, mb, mg, rfl, F.out, Nat.le_trans Z.out g1, Nat.le_trans Z.out g2⟩⟩
end Go.Proofs.YtbfamjnnlcopiaaGreatDoor
