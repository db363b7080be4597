/- Layer 21: the walk of ManifestTorn. -/
import Derived.Test.YtofmicbhheebiaaMnX
import Derived.Deep.CutBlock
import Derived.Deep.CutRange
namespace Go.Proofs.Ytofmicbhheebiaa
open Go.RowKit
set_option linter.unusedVariables false
set_option maxRecDepth 4000

theorem zeros_first : (List.replicate 64 (0 : Int)).take 4 = putL 4 0 := by decide
theorem zeros_last : (List.replicate 64 (0 : Int)).drop 60 = putL 4 0 := by decide
theorem zeros64 : zeros = List.replicate 64 0 := rfl
/-- The bytes that lie in the old one's place. -/
def oldL (bl : Bool) (o : Mn) : List Int := if bl = true then List.replicate 64 0 else manM o
theorem oldL_len (bl : Bool) (o : Mn) : (oldL bl o).length = 64 := by
  cases bl
  · exact manM_len o
  · exact List.length_replicate ..
theorem oldL_allB (bl : Bool) (o : Mn) : AllB (oldL bl o) := by
  cases bl
  · exact manM_allB o
  · exact noughts_allB 64
/-- What is read of a torn one. -/
theorem torn_cases {bl : Bool} {o f : Mn} {k : Nat} (hf : okM f = true) (ho : bl = true ∨ okM o = true ∧ o.s ≠ f.s) (hk : k ≤ 64) :
    let c := (manM f).take k ++ (oldL bl o).drop k
    (k = 64 ∨ c = manM f → wrongM c = 0 ∧ rdM c = f) ∧ (bl = false → c ≠ manM f → c = oldL bl o → wrongM c = 0 ∧ rdM c = o) ∧ (c ≠ manM f → (bl = true ∨ c ≠ oldL bl o) → wrongM c ≠ 0 ∧ rdM c = mnz) := by
  intro c
  have hc64 : k = 64 → c = manM f := fun e => by
    show (manM f).take k ++ (oldL bl o).drop k = manM f
    subst e
    rw [List.take_of_length_le (Nat.le_of_eq (manM_len f)), List.drop_eq_nil_of_le (Nat.le_of_eq (oldL_len bl o)), List.append_nil]
  obtain ⟨f0, f1, _⟩ := okM_iff.1 hf
  refine ⟨fun h => ?_, fun hb h1 h2 => ?_, fun h1 h2 => ?_⟩
  · have e : c = manM f := h.elim hc64 id
    rw [e]
    exact ⟨manM_right hf, manM_read hf⟩
  · rcases ho with e | ⟨ok, _⟩
    · rw [hb] at e; cases e
    · have e : c = manM o := by rw [h2]; unfold oldL; rw [hb]; rfl
      rw [e]
      exact ⟨manM_right ok, manM_read ok⟩
  · have hw : wrongM c ≠ 0 := fun q => by
      cases bl
      · rcases ho with e | ⟨ok, hne⟩
        · cases e
        · obtain ⟨o0, o1, _⟩ := okM_iff.1 ok
          have e : oldL false o = manM o := rfl
          rcases torn_law (so := o.s) hf rfl (oldL_len false o) (by rw [e]; exact manM_first o) (by rw [e]; exact manM_last o) (by omega) o1 hne hk q with r | r
          · exact h1 r
          · rcases h2 with h2 | h2
            · cases h2
            · exact h2 r
      · have e : oldL true o = List.replicate 64 0 := rfl
        rcases torn_law (so := 0) hf rfl (oldL_len true o) (by rw [e]; exact zeros_first) (by rw [e]; exact zeros_last) (by omega) (by omega) (by omega) hk q with r | r
        · exact h1 r
        · refine zeros_wrong ?_
          have r2 : c = List.replicate 64 0 := r
          rw [← r2]
          exact q
    exact ⟨hw, if_neg hw⟩
/-- Two manifests in boxes of their own. -/
structure Tn (w0 wx : World) (bo bf : Nat) (o f : Mn) : Prop where
  old : wx.heap[bo]? = some (.cells #[.int .i64 o.s, .int .i64 o.f, .int .i64 o.n] 23 (0, 0))
  fresh : wx.heap[bf]? = some (.cells #[.int .i64 f.s, .int .i64 f.f, .int .i64 f.n] 23 (0, 0))
  low : Below w0.heap.size w0 wx
theorem Tn.keep {w0 wx w' : World} {bo bf : Nat} {o f : Mn} (h : Tn w0 wx bo bf o f) (b : Below wx.heap.size wx w') : Tn w0 w' bo bf o f :=
  ⟨by rw [b.block _ (Array.getElem?_eq_some_iff.1 h.old).1]; exact h.old, by rw [b.block _ (Array.getElem?_eq_some_iff.1 h.fresh).1]; exact h.fresh, h.low.trans (b.mono h.low.size)⟩
theorem tn_made (w0 : World) (o f : Mn) : Tn w0 ((w0.alloc (.cells #[.int .i64 o.s, .int .i64 o.f, .int .i64 o.n] 23)).alloc (.cells #[.int .i64 f.s, .int .i64 f.f, .int .i64 f.n] 23)) w0.heap.size (w0.heap.size + 1) o f := by
  obtain ⟨D, hD⟩ : ∃ D, w0.alloc (.cells #[.int .i64 o.s, .int .i64 o.f, .int .i64 o.n] 23) = D := ⟨_, rfl⟩
  have rD : D.heap[w0.heap.size]? = some (.cells #[.int .i64 o.s, .int .i64 o.f, .int .i64 o.n] 23 (0, 0)) := by rw [← hD]; exact Go.heap_alloc_new w0 _
  have bD : Below w0.heap.size w0 D := by rw [← hD]; exact (Below.refl _ _).alloc (Nat.le_refl _) _
  have sD : D.heap.size = w0.heap.size + 1 := by rw [← hD]; simp
  rw [hD, ← sD]
  have bE : Below D.heap.size D (D.alloc (.cells #[.int .i64 f.s, .int .i64 f.f, .int .i64 f.n] 23)) := (Below.refl _ _).alloc (Nat.le_refl _) _
  exact ⟨by rw [bE.block _ (Array.getElem?_eq_some_iff.1 rD).1]; exact rD, Go.heap_alloc_new D _, bD.trans (bE.mono bD.size)⟩
theorem tn_made2 (w0 : World) (o f : Mn) : Tn w0 ((w0.alloc (.cells #[.int .i64 f.s, .int .i64 f.f, .int .i64 f.n] 23)).alloc (.cells #[.int .i64 o.s, .int .i64 o.f, .int .i64 o.n] 23)) (w0.heap.size + 1) w0.heap.size o f :=
  have h := tn_made w0 f o
  ⟨h.fresh, h.old, h.low⟩

theorem Tn.drew {w0 wx : World} {bo bf : Nat} {o f : Mn} (h : Tn w0 wx bo bf o f) : Tn w0 wx.drew bo bf o f := ⟨h.old, h.fresh, ⟨h.low.os, h.low.tape, h.low.output, h.low.size, h.low.block⟩⟩
theorem appB21 (w : World) (base : Nat) (hbase : base ≤ w.heap.size) (as0 : Option Addr) (L : List Int) (cs : Nat) (hown : OwnsB w base as0 L cs) (ad : Addr) (l : List Int) (cx : Nat) (hB : IsB w (some ad) l) (hlen : L.length + l.length ≤ 140737488355328) :
    ∃ a' cap' w', (Builtin.append_ #[25, 25] 25 #[.slice as0 L.length cs, .slice (some ad) l.length cx]).run Try.prog w = .ok (.slice a' (L ++ l).length cap') w' ∧ OwnsB w' base a' (L ++ l) cap' ∧ Below base w w' := by
  obtain ⟨i0, hi, hz0, hz1, hz2⟩ := info_parts Try.info5
  obtain ⟨v', w', h1, h2, h3, _⟩ := run_append_own (P := Try.prog) w base 25 25 5 i0 (.int .u8 0) 1 1 Try.underlying25 hi hz0 hz1 hz2 rfl (by decide) _ L.length (L.map (Value.int .u8)) hown ad l.length cx (l.map (Value.int .u8)) (by simp) (by
      intro j u hj
      have hjn : j < l.length := by
        have := (List.getElem?_eq_some_iff.1 hj).1
        simpa using this
      obtain ⟨_, rfl | ⟨b, off, e, _, hc⟩⟩ := hB
      · simp at hjn
      · cases e
        rw [addr_add, hc j hjn]
        have e : (l.map (Value.int .u8))[j]? = some (Value.int .u8 (l.getD j 0)) := by simp [List.getD, List.getElem?_eq_getElem hjn]
        rw [e] at hj
        exact hj) (by intro u hu; obtain ⟨x, _, rfl⟩ := List.mem_map.1 hu; rfl) (by unfold maxLen; omega) (by omega) hbase
  obtain ⟨a', cap', rfl⟩ := owns_form h2
  exact ⟨a', cap', w', by rw [List.length_append]; exact h1, by simpa [OwnsB] using h2, (Below.refl _ w).grown h3 hbase (own_ge hown)⟩
set_option maxRecDepth 20000 in
set_option maxHeartbeats 8000000 in
theorem torn_try (o f : Mn) (bl : Bool) (kp : Int) (w : World) (hk0 : 0 ≤ kp) (hk1 : kp ≤ 255) :
    Calls Try.prog 5 #[.agg #[.int .i64 o.s, .int .i64 o.f, .int .i64 o.n, .int .i64 f.s, .int .i64 f.f, .int .i64 f.n, .bool bl], .int .u8 kp] w fun e w' => e = .returned (.bool true) ∧ Below w.heap.size w w' := by
  obtain ⟨D, hD⟩ : ∃ D, w.alloc (.cells #[.int .i64 o.s, .int .i64 o.f, .int .i64 o.n, .int .i64 f.s, .int .i64 f.f, .int .i64 f.n, .bool bl] 43) = D := ⟨_, rfl⟩
  have rD : D.heap[w.heap.size]? = some (.cells #[.int .i64 o.s, .int .i64 o.f, .int .i64 o.n, .int .i64 f.s, .int .i64 f.f, .int .i64 f.n, .bool bl] 43 (0, 0)) := by rw [← hD]; exact Go.heap_alloc_new w _
  have BD : Hid (Below w.heap.size w D) := by show Below _ _ _; rw [← hD]; exact (Below.refl _ _).alloc (Nat.le_refl _) _
  have LD : w.heap.size < D.heap.size := (Array.getElem?_eq_some_iff.1 rD).1
  have HD : Hid _ := hD
  have C7 : Hid (∀ w' : World, Below D.heap.size D w' → w'.cell? ⟨w.heap.size, 0, none⟩ = some (.int .i64 o.s) ∧ w'.cell? ⟨w.heap.size, 1, none⟩ = some (.int .i64 o.f) ∧ w'.cell? ⟨w.heap.size, 2, none⟩ = some (.int .i64 o.n) ∧ w'.cell? ⟨w.heap.size, 3, none⟩ = some (.int .i64 f.s) ∧ w'.cell? ⟨w.heap.size, 4, none⟩ = some (.int .i64 f.f) ∧ w'.cell? ⟨w.heap.size, 5, none⟩ = some (.int .i64 f.n) ∧ w'.cell? ⟨w.heap.size, 6, none⟩ = some (.bool bl)) := fun w' bb => by
    have q : w'.heap[w.heap.size]? = _ := (bb.block _ LD).trans rD
    exact ⟨cell_of_row _ _ 0 _ _ _ q, cell_of_row _ _ 1 _ _ _ q, cell_of_row _ _ 2 _ _ _ q, cell_of_row _ _ 3 _ _ _ q, cell_of_row _ _ 4 _ _ _ q, cell_of_row _ _ 5 _ _ _ q, cell_of_row _ _ 6 _ _ _ q⟩
  clear hD rD LD
  go_enter Try.func5, Try.ntmps5
  go_upto_region 1 with (fail)
  rw [HD.out]
  go_wp2_with fail
  refine Calls.mono (alive21 _) ?_
  rintro e w0 ⟨rfl, b0⟩
  have B0 : Hid (Below D.heap.size D w0) := b0
  obtain ⟨c0, c1, c2, c3, c4, c5, c6⟩ := C7.out w0 b0
  clear b0
  go_upto_region 3 with (fail)
  go_cut [5, 6, 7] from 18 to 23 (fun ov fv bv wx => ∃ bo bf, ov = .pointer (some ⟨bo, 0, none⟩) ∧ fv = .pointer (some ⟨bf, 0, none⟩) ∧ bv = .bool bl ∧ Tn w0 wx bo bf o f)
  case first =>
    go_region_held3 (fun w' => w'.cell? ⟨w.heap.size, 0, none⟩ = some (.int .i64 o.s) ∧ w'.cell? ⟨w.heap.size, 1, none⟩ = some (.int .i64 o.f) ∧ w'.cell? ⟨w.heap.size, 2, none⟩ = some (.int .i64 o.n) ∧ w'.cell? ⟨w.heap.size, 3, none⟩ = some (.int .i64 f.s) ∧ w'.cell? ⟨w.heap.size, 4, none⟩ = some (.int .i64 f.f) ∧ w'.cell? ⟨w.heap.size, 5, none⟩ = some (.int .i64 f.n) ∧ w'.cell? ⟨w.heap.size, 6, none⟩ = some (.bool bl)) (first | exact ⟨c0, c1, c2, c3, c4, c5, c6⟩ | go_keep)
      (fail)
    all_goals
      go_wp2_with fail
      go_meet
      first
        | exact ⟨_, _, rfl, rfl, rfl, (tn_made w0 o f).drew⟩
        | exact ⟨_, _, rfl, rfl, rfl, (tn_made2 w0 o f).drew⟩
  case rest =>
  obtain ⟨bo, bf, rfl, rfl, rfl, ht⟩ := hcut
  rename World => w1
  have T1 : Hid (Tn w0 w1 bo bf o f) := ht
  obtain ⟨v0, v1, v2⟩ := three21 ht.old
  clear ht c0 c1 c2 c3 c4 c5 c6
  have BW0 : Hid (Below w.heap.size w w0) := BD.out.trans (B0.out.mono BD.out.size)
  have MO : Hid (∀ w, Calls Try.prog 9 #[.agg #[.int .i64 o.s, .int .i64 o.f, .int .i64 o.n]] w fun e w' => ∃ (a : Option Addr) (k : Nat), e = .returned (.tuple #[.slice a k k, .int .i64 (errM o)]) ∧ k = (outM o).length ∧ IsB w' a (outM o) ∧ (okM o = true → ∃ g, a = some ⟨g, 0, none⟩ ∧ w.heap.size ≤ g ∧ RowB w' g 5 (manM o) ∧ k = 64) ∧ (okM o = false → a = none ∧ k = 0) ∧ Below w.heap.size w w') := fun w => mbytes_any o w
  have MF : Hid (∀ w, Calls Try.prog 9 #[.agg #[.int .i64 f.s, .int .i64 f.f, .int .i64 f.n]] w fun e w' => ∃ (a : Option Addr) (k : Nat), e = .returned (.tuple #[.slice a k k, .int .i64 (errM f)]) ∧ k = (outM f).length ∧ IsB w' a (outM f) ∧ (okM f = true → ∃ g, a = some ⟨g, 0, none⟩ ∧ w.heap.size ≤ g ∧ RowB w' g 5 (manM f) ∧ k = 64) ∧ (okM f = false → a = none ∧ k = 0) ∧ Below w.heap.size w w') := fun w => mbytes_any f w
  have EO : Hid (∀ w : World, (binOp .eql 23 (.agg #[.int .i64 o.s, .int .i64 o.f, .int .i64 o.n]) (.agg #[.int .i64 o.s, .int .i64 o.f, .int .i64 o.n])).run Try.prog w = .ok (.bool true) w) := eqlM 23 o o true (eqM_iff.2 rfl) (by kernel_rfl) (by kernel_rfl) (by kernel_rfl)
  have EF : Hid (∀ w : World, (binOp .eql 23 (.agg #[.int .i64 f.s, .int .i64 f.f, .int .i64 f.n]) (.agg #[.int .i64 f.s, .int .i64 f.f, .int .i64 f.n])).run Try.prog w = .ok (.bool true) w) := eqlM 23 f f true (eqM_iff.2 rfl) (by kernel_rfl) (by kernel_rfl) (by kernel_rfl)
  have EZ : Hid (∀ w : World, (binOp .eql 29 (.agg #[.int .i64 0, .int .i64 0, .int .i64 0]) (.agg #[.int .i64 0, .int .i64 0, .int .i64 0])).run Try.prog w = .ok (.bool true) w) := eqlM 29 mnz mnz true (eqM_iff.2 rfl) (by kernel_rfl) (by kernel_rfl) (by kernel_rfl)
  have KF : okM f = true → errM f = 0 := fun h => if_pos h
  have KF4 : okM f = false → errM f = 4 := fun h => if_neg (by rw [h]; decide)
  have KO : okM o = true → errM o = 0 := fun h => if_pos h
  have KO4 : okM o = false → errM o = 4 := fun h => if_neg (by rw [h]; decide)
  obtain ⟨K, hKp⟩ : ∃ K : Nat, (K : Int) = kp % 65 := ⟨(kp % 65).toNat, by omega⟩
  have hK : K ≤ 64 := by omega
  have tk : kp.tmod 65 = (K : Int) := by rw [Int.tmod_eq_emod_of_nonneg hk0]; omega
  have wk8 : IntKind.u8.wrap (K : Int) = (K : Int) := by rw [IntKind.wrap_u8]; omega
  have wk64 : IntKind.i64.wrap (K : Int) = (K : Int) := by rw [IntKind.wrap_i64]; omega
  obtain ⟨eo, heo⟩ : ∃ e, errM o = e := ⟨_, rfl⟩
  obtain ⟨ef, hef⟩ : ∃ e, errM f = e := ⟨_, rfl⟩
  rw [heo] at MO KO KO4
  rw [hef] at MF KF KF4
  clear heo hef hKp
  go_wp2_with fail
  refine Calls.mono (MO.out _) ?_
  rintro e w2 ⟨a2, k2, rfl, hk2, i2, hok2, hno2, b2⟩
  have T2 : Hid (Tn w0 w2 bo bf o f) := T1.out.keep b2
  clear v0 v1 v2
  obtain ⟨x0, x1, x2⟩ := three21 T2.out.fresh
  have B2 : Hid (Below w1.heap.size w1 w2) := b2
  clear b2 i2 hk2
  go_wp2_with fail
  refine Calls.mono (MF.out _) ?_
  rintro e w3 ⟨a3, k3, rfl, hk3, i3, hok3, hno3, b3⟩
  have T3 : Hid (Tn w0 w3 bo bf o f) := T2.out.keep b3
  have B3 : Hid (Below w2.heap.size w2 w3) := b3
  have BW3 : Hid (Below w.heap.size w w3) := BW0.out.trans (T3.out.low.mono BW0.out.size)
  clear x0 x1 x2 b3 i3 hk3
  cases bl with
  | true =>
    cases hf : okM f with
    | false =>
      obtain rfl : ef = 4 := KF4 hf
      have hmk := make_row 64 (by decide) w3
      have e64 : ((64 : Nat) : Int) = 64 := rfl
      rw [e64] at hmk
      have b4 : Hid (Below w3.heap.size w3 (w3.alloc (.cells (madeCells #[.int .u8 0] 64) 5))) := (Below.refl _ _).alloc (Nat.le_refl _) _
      clear hok2 hno2 hok3 hno3 KF KF4 KO KO4 hf
      go_wp2
      go_ret
      exact ⟨rfl, BW3.out.trans (b4.out.mono BW3.out.size)⟩
    | true =>
      obtain rfl : ef = 0 := KF hf
      obtain ⟨gb, rfl, _, r3, rfl⟩ := hok3 hf
      have hmk := make_row 64 (by decide) w3
      have zr : RowB (w3.alloc (.cells (madeCells #[.int .u8 0] 64) 5)) w3.heap.size 5 zeros := by
        show (w3.alloc _).heap[w3.heap.size]? = _
        rw [made_zero]
        exact Go.heap_alloc_new w3 _
      obtain ⟨W4, hW4⟩ : ∃ W, w3.alloc (.cells (madeCells #[.int .u8 0] 64) 5) = W := ⟨_, rfl⟩
      have b4 : Below w3.heap.size w3 W4 := by rw [← hW4]; exact (Below.refl _ _).alloc (Nat.le_refl _) _
      obtain ⟨ga, hga⟩ : ∃ n, w3.heap.size = n := ⟨_, rfl⟩
      have e64 : ((64 : Nat) : Int) = 64 := rfl
      rw [e64, hW4, hga] at hmk
      rw [hW4, hga] at zr
      have RA : Hid (RowB W4 ga 5 (oldL true o)) := zr
      have RB : Hid (RowB W4 gb 5 (manM f)) := r3.keep b4
      have TN : Hid (Tn w0 W4 bo bf o f) := T3.out.keep b4
      have BW : Hid (Below w.heap.size w W4) := BW3.out.trans (b4.mono BW3.out.size)
      obtain ⟨C, hC⟩ : ∃ C, (manM f).take K ++ (oldL true o).drop K = C := ⟨_, rfl⟩
      clear hok2 hno2 hok3 hno3 KF KF4 KO KO4 zr r3 b4 hW4 hga e64
      have CL : Hid (C.length = 64) := by show _ = _; rw [← hC, List.length_append, List.length_take, List.length_drop, manM_len, oldL_len]; omega
      obtain ⟨tc1, tc2, tc3⟩ := torn_cases (bl := true) (o := o) (f := f) (k := K) hf (.inl rfl) hK
      rw [hC] at tc1 tc2 tc3
      have AC : Hid (AllB C) := by show AllB _; rw [← hC]; exact ((manM_allB f).take K).append (AllB.drop (oldL_allB true o) K)
      have CP : Hid (∀ w' : World, Below W4.heap.size W4 w' → Calls Try.prog 15 #[.slice (some ⟨gb, 0, none⟩) K 64] w' fun e w2 => ∃ g c, e = .returned (.slice (some ⟨g, 0, none⟩) K c) ∧ OwnsB w2 w'.heap.size (some ⟨g, 0, none⟩) ((manM f).take K) c ∧ Below w'.heap.size w' w2) := fun w' bb => by
        have tl : ((manM f).take K).length = K := by rw [List.length_take, manM_len]; omega
        have q := (RB.out.isB (manM_allB f)).part 0 K rfl
        rw [List.drop_zero] at q
        refine (copy_any (some ⟨gb, 0, none⟩) 64 K ((manM f).take K) w' tl.symm (q.keep bb) (by rw [tl]; omega)).mono ?_
        rintro e w2 ⟨g, c, rfl, o2, b2⟩
        rw [tl]
        exact ⟨g, c, rfl, o2, b2⟩
      have AP : Hid (∀ (w5 : World) (g c q : Nat), Below W4.heap.size W4 w5 → W4.heap.size ≤ w5.heap.size → OwnsB w5 W4.heap.size (some ⟨g, 0, none⟩) ((manM f).take K) c → (q = K ∨ K = 64) → ∀ cx, ∃ a' c' w6, (Builtin.append_ #[25, 25] 25 #[.slice (some ⟨g, 0, none⟩) K c, .slice (some ⟨ga, q, none⟩) (64 - K) cx]).run Try.prog w5 = .ok (.slice a' 64 c') w6 ∧ OwnsB w6 W4.heap.size a' C c' ∧ Below W4.heap.size W4 w6) := fun w5 g c q bb hs ow hq cx => by
        have tl : ((manM f).take K).length = K := by rw [List.length_take, manM_len]; omega
        have dl : ((oldL true o).drop K).length = 64 - K := by rw [List.length_drop, oldL_len]
        have i5 : IsB w5 (some ⟨ga, q, none⟩) ((oldL true o).drop K) := by
          rcases hq with rfl | h64
          · have z := (RA.out.isB (oldL_allB true o)).part q 64 rfl
            rw [Nat.zero_add, List.take_of_length_le (by rw [List.length_drop, oldL_len]; omega)] at z
            exact z.keep bb
          · exact ⟨AllB.drop (oldL_allB true o) K, .inl (List.drop_eq_nil_of_le (by rw [oldL_len]; omega))⟩
        obtain ⟨a', c', w6, h1, h2, h3⟩ := appB21 w5 W4.heap.size hs (some ⟨g, 0, none⟩) ((manM f).take K) c ow ⟨ga, q, none⟩ ((oldL true o).drop K) cx i5 (by rw [tl, dl]; omega)
        rw [hC] at h1 h2
        rw [tl, dl, CL.out] at h1
        exact ⟨a', c', w6, h1, h2, bb.trans h3⟩
      have MR : Hid (∀ (w' : World) (a : Option Addr) (c : Nat), IsB w' a C → 64 ≤ c → Calls Try.prog 14 #[.slice a 64 c] w' fun e w2 => e = .returned (.tuple #[(rdM C).v, .int .i64 (wrongM C)]) ∧ Below w'.heap.size w' w2) := fun w' a c i hc => mread_any a c 64 C w' i CL.out.symm (by rw [CL.out]; exact hc) (by rw [CL.out]; decide)
      have SB : Hid (∀ (w' : World) (a : Option Addr) (c : Nat), IsB w' a C → Below W4.heap.size W4 w' → Calls Try.prog 11 #[.slice a 64 c, .slice (some ⟨gb, 0, none⟩) 64 64] w' fun e w2 => e = .returned (.bool (decide (C = manM f))) ∧ w' = w2) := fun w' a c i bb => same_any _ _ 64 64 c 64 C (manM f) w' i ((RB.out.isB (manM_allB f)).keep bb) CL.out.symm (manM_len f).symm
      have SO : Hid (∀ (w' : World) (a : Option Addr) (c : Nat), IsB w' a C → Below W4.heap.size W4 w' → Calls Try.prog 11 #[.slice a 64 c, .slice (some ⟨ga, 0, none⟩) 64 64] w' fun e w2 => e = .returned (.bool (decide (C = oldL true o))) ∧ w' = w2) := fun w' a c i bb => same_any _ _ 64 64 c 64 C (oldL true o) w' i ((RA.out.isB (oldL_allB true o)).keep bb) CL.out.symm (oldL_len true o).symm
      have K64 : (K : Int) ≤ 64 := by omega
      have K0 : (0 : Int) ≤ (K : Int) := by omega
      clear hf hC
      go_upto_region 11 with (fail)
      go_cut [13] from 56 to 63 (fun cv wx => ∃ (a5 : Option Addr) (c5 : Nat), cv = .slice a5 64 c5 ∧ OwnsB wx W4.heap.size a5 C c5 ∧ Below W4.heap.size W4 wx)
      case first =>
        by_cases h64 : K = 64
        · subst h64
          go_region_held3 (fun w' => True) (first | trivial | go_keep)
            (first
              | (go_at_call 15; refine Calls.mono (CP.out _ (by with_reducible first | exact Below.refl _ _ | exact belowDrew _)) ?_; rintro e w5 ⟨g5, c5, rfl, o5, b5⟩; have O5 : Hid (OwnsB w5 W4.heap.size (some ⟨g5, 0, none⟩) ((manM f).take 64) c5) := o5; have B5 : Hid (Below W4.heap.size W4 w5) := ofDrewM b5; obtain ⟨a6, c6, w6, run6, o6, b6⟩ := AP.out w5 g5 c5 0 B5.out B5.out.size O5.out (.inr rfl) 0; have O6 : Hid (OwnsB w6 W4.heap.size a6 C c6) := o6; have B6 : Hid (Below W4.heap.size W4 w6) := b6; have RUN : Hid _ := run6; clear o5 b5 o6 b6 run6)
              | (refine step_app rfl (.tmp 59) (.tmp 62) 25 rfl _ _ rfl rfl _ w6 RUN.out ?_))
          go_wp2_with fail
          go_meet
          exact ⟨a6, c6, rfl, O6.out, B6.out⟩
        · have K64' : ¬ (64 - K = 0) := by omega
          go_region_held3 (fun w' => True) (first | trivial | go_keep)
            (first
              | (go_at_call 15; refine Calls.mono (CP.out _ (by with_reducible first | exact Below.refl _ _ | exact belowDrew _)) ?_; rintro e w5 ⟨g5, c5, rfl, o5, b5⟩; have O5 : Hid (OwnsB w5 W4.heap.size (some ⟨g5, 0, none⟩) ((manM f).take K) c5) := o5; have B5 : Hid (Below W4.heap.size W4 w5) := ofDrewM b5; obtain ⟨a6, c6, w6, run6, o6, b6⟩ := AP.out w5 g5 c5 K B5.out B5.out.size O5.out (.inl rfl) (64 - K); have O6 : Hid (OwnsB w6 W4.heap.size a6 C c6) := o6; have B6 : Hid (Below W4.heap.size W4 w6) := b6; have RUN : Hid _ := run6; clear o5 b5 o6 b6 run6)
              | (refine step_app rfl (.tmp 59) (.tmp 62) 25 rfl _ _ rfl rfl _ w6 RUN.out ?_))
          go_wp2_with fail
          go_meet
          exact ⟨a6, c6, rfl, O6.out, B6.out⟩
      case rest =>
        obtain ⟨a5, c5, rfl, o5, b5⟩ := hcut
        rename World => w5
        have I5 : Hid (IsB w5 a5 C) := ownsB_isB AC.out o5
        have C5 : Hid (64 ≤ c5) := by have := (ownsB_isL o5).1; rw [CL.out] at this; exact this
        have B5 : Hid (Below W4.heap.size W4 w5) := b5
        clear o5 b5
        obtain ⟨⟨rs, rf, rn⟩, hr⟩ : ∃ r, rdM C = r := ⟨_, rfl⟩
        obtain ⟨WC, hw⟩ : ∃ r, wrongM C = r := ⟨_, rfl⟩
        rw [hr, hw] at MR tc1 tc2 tc3
        have TC1 : Hid _ := tc1
        have TC2 : Hid _ := tc2
        have TC3 : Hid _ := tc3
        clear tc1 tc2 tc3
        unfold Mn.v at MR
        go_wp2_with fail
        refine Calls.mono (MR.out _ _ _ I5.out C5.out) ?_
        rintro e w6 ⟨rfl, b6⟩
        obtain ⟨F, hF, rF, bF⟩ := box21 29 w6 rs rf rn
        have HF : Hid _ := hF
        have B6 : Hid (Below W4.heap.size W4 F) := B5.out.trans ((b6.trans (bF.mono b6.size)).mono B5.out.size)
        have I6 : Hid (IsB F a5 C) := (I5.out.keep b6).keep bF
        obtain ⟨z0, z1, z2⟩ := three21 rF
        have T6 := TN.out.keep B6.out
        obtain ⟨x0, x1, x2⟩ := three21 T6.fresh
        obtain ⟨v0, v1, v2⟩ := three21 T6.old
        have BF : Hid (Below w.heap.size w F) := BW.out.trans (B6.out.mono BW.out.size)
        obtain ⟨n6, hn6⟩ : ∃ n, w6.heap.size = n := ⟨_, rfl⟩
        have HN6 : Hid (w6.heap.size = n6) := hn6
        rw [hn6] at z0 z1 z2
        clear hF rF bF b6 T6 hn6 hr hw
        go_upto_region 13 with (fail)
        rw [HF.out]
        try rw [HN6.out]
        by_cases h64 : K = 64
        · obtain ⟨q1, q2⟩ := TC1.out (.inl h64)
          subst h64
          have e0 := congrArg Mn.s q2
          have e1 := congrArg Mn.f q2
          have e2 := congrArg Mn.n q2
          simp only at e0 e1 e2
          subst q1 e0 e1 e2
          have NQ := EF.out
          go_wp2
          go_ret
          exact ⟨rfl, BF.out⟩
        have k64 : ((K : Int) == 64) = false := by rw [beq_eq_false_iff_ne]; omega
        have k64i : ¬ (K : Int) = 64 := by omega
        by_cases hcb : C = manM f
        · obtain ⟨q1, q2⟩ := TC1.out (.inr hcb)
          have e0 := congrArg Mn.s q2
          have e1 := congrArg Mn.f q2
          have e2 := congrArg Mn.n q2
          simp only at e0 e1 e2
          subst q1 e0 e1 e2
          have dv : decide (C = manM f) = true := decide_eq_true hcb
          rw [dv] at SB
          have NQ := EF.out
          go_wp2_with (go_at_call 11; refine Calls.mono (SB.out _ _ _ I6.out B6.out) ?_; rintro e w' ⟨rfl, rfl⟩)
          go_ret
          exact ⟨rfl, BF.out⟩
        have dvb : decide (C = manM f) = false := decide_eq_false hcb
        rw [dvb] at SB
        obtain ⟨q1, q2⟩ := TC3.out hcb (.inl (by first | rfl | trivial))
        have e0 := congrArg Mn.s q2
        have e1 := congrArg Mn.f q2
        have e2 := congrArg Mn.n q2
        simp only [mnz] at e0 e1 e2
        subst e0 e1 e2
        have w0' : (WC == 0) = false := by rw [beq_eq_false_iff_ne]; exact q1
        have w0i : ¬ WC = 0 := q1
        have NQ := EZ.out
        go_wp2_with (go_at_call 11; refine Calls.mono (SB.out _ _ _ I6.out B6.out) ?_; rintro e w' ⟨rfl, rfl⟩)
        go_ret
        exact ⟨by first | rfl | (simp; done) | (simp; exact w0i), BF.out⟩
  | false =>
    cases ho : okM o with
    | false =>
      obtain rfl : eo = 4 := KO4 ho
      clear hok2 hno2 hok3 hno3 KF KF4 KO KO4 ho
      go_wp2
      go_ret
      exact ⟨rfl, BW3.out⟩
    | true =>
      obtain rfl : eo = 0 := KO ho
      cases hf : okM f with
      | false =>
        obtain rfl : ef = 4 := KF4 hf
        clear hok2 hno2 hok3 hno3 KF KF4 KO KO4 hf ho
        go_wp2
        go_ret
        exact ⟨rfl, BW3.out⟩
      | true =>
        obtain rfl : ef = 0 := KF hf
        by_cases hne : o.s = f.s
        · obtain ⟨v0, v1, v2⟩ := three21 T3.out.old
          obtain ⟨x0, x1, x2⟩ := three21 T3.out.fresh
          clear hok2 hno2 hok3 hno3 KF KF4 KO KO4 hf ho
          go_wp2
          go_ret
          exact ⟨rfl, BW3.out⟩
        · obtain ⟨ga, rfl, _, r2, rfl⟩ := hok2 ho
          obtain ⟨gb, rfl, _, r3, rfl⟩ := hok3 hf
          obtain ⟨W4, hW4⟩ : ∃ W, w3 = W := ⟨_, rfl⟩
          have RA : Hid (RowB W4 ga 5 (oldL false o)) := by rw [← hW4]; exact r2.keep B3.out
          have RB : Hid (RowB W4 gb 5 (manM f)) := by rw [← hW4]; exact r3
          have TN : Hid (Tn w0 W4 bo bf o f) := by rw [← hW4]; exact T3.out
          have BW : Hid (Below w.heap.size w W4) := by rw [← hW4]; exact BW3.out
          obtain ⟨v0, v1, v2⟩ := three21 TN.out.old
          obtain ⟨x0, x1, x2⟩ := three21 TN.out.fresh
          have hneb : (o.s == f.s) = false := by rw [beq_eq_false_iff_ne]; exact hne
          obtain ⟨C, hC⟩ : ∃ C, (manM f).take K ++ (oldL false o).drop K = C := ⟨_, rfl⟩
          rw [hW4]
          clear hok2 hno2 hok3 hno3 KF KF4 KO KO4 r2 r3 hW4 T3 B3 BW3
          have CL : Hid (C.length = 64) := by show _ = _; rw [← hC, List.length_append, List.length_take, List.length_drop, manM_len, oldL_len]; omega
          obtain ⟨tc1, tc2, tc3⟩ := torn_cases (bl := false) (o := o) (f := f) (k := K) hf (.inr ⟨ho, hne⟩) hK
          rw [hC] at tc1 tc2 tc3
          have AC : Hid (AllB C) := by show AllB _; rw [← hC]; exact ((manM_allB f).take K).append (AllB.drop (oldL_allB false o) K)
          have CP : Hid (∀ w' : World, Below W4.heap.size W4 w' → Calls Try.prog 15 #[.slice (some ⟨gb, 0, none⟩) K 64] w' fun e w2 => ∃ g c, e = .returned (.slice (some ⟨g, 0, none⟩) K c) ∧ OwnsB w2 w'.heap.size (some ⟨g, 0, none⟩) ((manM f).take K) c ∧ Below w'.heap.size w' w2) := fun w' bb => by
            have tl : ((manM f).take K).length = K := by rw [List.length_take, manM_len]; omega
            have q := (RB.out.isB (manM_allB f)).part 0 K rfl
            rw [List.drop_zero] at q
            refine (copy_any (some ⟨gb, 0, none⟩) 64 K ((manM f).take K) w' tl.symm (q.keep bb) (by rw [tl]; omega)).mono ?_
            rintro e w2 ⟨g, c, rfl, o2, b2⟩
            rw [tl]
            exact ⟨g, c, rfl, o2, b2⟩
          have AP : Hid (∀ (w5 : World) (g c q : Nat), Below W4.heap.size W4 w5 → W4.heap.size ≤ w5.heap.size → OwnsB w5 W4.heap.size (some ⟨g, 0, none⟩) ((manM f).take K) c → (q = K ∨ K = 64) → ∀ cx, ∃ a' c' w6, (Builtin.append_ #[25, 25] 25 #[.slice (some ⟨g, 0, none⟩) K c, .slice (some ⟨ga, q, none⟩) (64 - K) cx]).run Try.prog w5 = .ok (.slice a' 64 c') w6 ∧ OwnsB w6 W4.heap.size a' C c' ∧ Below W4.heap.size W4 w6) := fun w5 g c q bb hs ow hq cx => by
            have tl : ((manM f).take K).length = K := by rw [List.length_take, manM_len]; omega
            have dl : ((oldL false o).drop K).length = 64 - K := by rw [List.length_drop, oldL_len]
            have i5 : IsB w5 (some ⟨ga, q, none⟩) ((oldL false o).drop K) := by
              rcases hq with rfl | h64
              · have z := (RA.out.isB (oldL_allB false o)).part q 64 rfl
                rw [Nat.zero_add, List.take_of_length_le (by rw [List.length_drop, oldL_len]; omega)] at z
                exact z.keep bb
              · exact ⟨AllB.drop (oldL_allB false o) K, .inl (List.drop_eq_nil_of_le (by rw [oldL_len]; omega))⟩
            obtain ⟨a', c', w6, h1, h2, h3⟩ := appB21 w5 W4.heap.size hs (some ⟨g, 0, none⟩) ((manM f).take K) c ow ⟨ga, q, none⟩ ((oldL false o).drop K) cx i5 (by rw [tl, dl]; omega)
            rw [hC] at h1 h2
            rw [tl, dl, CL.out] at h1
            exact ⟨a', c', w6, h1, h2, bb.trans h3⟩
          have MR : Hid (∀ (w' : World) (a : Option Addr) (c : Nat), IsB w' a C → 64 ≤ c → Calls Try.prog 14 #[.slice a 64 c] w' fun e w2 => e = .returned (.tuple #[(rdM C).v, .int .i64 (wrongM C)]) ∧ Below w'.heap.size w' w2) := fun w' a c i hc => mread_any a c 64 C w' i CL.out.symm (by rw [CL.out]; exact hc) (by rw [CL.out]; decide)
          have SB : Hid (∀ (w' : World) (a : Option Addr) (c : Nat), IsB w' a C → Below W4.heap.size W4 w' → Calls Try.prog 11 #[.slice a 64 c, .slice (some ⟨gb, 0, none⟩) 64 64] w' fun e w2 => e = .returned (.bool (decide (C = manM f))) ∧ w' = w2) := fun w' a c i bb => same_any _ _ 64 64 c 64 C (manM f) w' i ((RB.out.isB (manM_allB f)).keep bb) CL.out.symm (manM_len f).symm
          have SO : Hid (∀ (w' : World) (a : Option Addr) (c : Nat), IsB w' a C → Below W4.heap.size W4 w' → Calls Try.prog 11 #[.slice a 64 c, .slice (some ⟨ga, 0, none⟩) 64 64] w' fun e w2 => e = .returned (.bool (decide (C = oldL false o))) ∧ w' = w2) := fun w' a c i bb => same_any _ _ 64 64 c 64 C (oldL false o) w' i ((RA.out.isB (oldL_allB false o)).keep bb) CL.out.symm (oldL_len false o).symm
          have K64 : (K : Int) ≤ 64 := by omega
          have K0 : (0 : Int) ≤ (K : Int) := by omega
          clear hf hC ho hne
          go_upto_region 11 with (fail)
          go_cut [13] from 56 to 63 (fun cv wx => ∃ (a5 : Option Addr) (c5 : Nat), cv = .slice a5 64 c5 ∧ OwnsB wx W4.heap.size a5 C c5 ∧ Below W4.heap.size W4 wx)
          case first =>
            by_cases h64 : K = 64
            · subst h64
              go_region_held3 (fun w' => True) (first | trivial | go_keep)
                (first
                  | (go_at_call 15; refine Calls.mono (CP.out _ (by with_reducible first | exact Below.refl _ _ | exact belowDrew _)) ?_; rintro e w5 ⟨g5, c5, rfl, o5, b5⟩; have O5 : Hid (OwnsB w5 W4.heap.size (some ⟨g5, 0, none⟩) ((manM f).take 64) c5) := o5; have B5 : Hid (Below W4.heap.size W4 w5) := ofDrewM b5; obtain ⟨a6, c6, w6, run6, o6, b6⟩ := AP.out w5 g5 c5 0 B5.out B5.out.size O5.out (.inr rfl) 0; have O6 : Hid (OwnsB w6 W4.heap.size a6 C c6) := o6; have B6 : Hid (Below W4.heap.size W4 w6) := b6; have RUN : Hid _ := run6; clear o5 b5 o6 b6 run6)
                  | (refine step_app rfl (.tmp 59) (.tmp 62) 25 rfl _ _ rfl rfl _ w6 RUN.out ?_))
              go_wp2_with fail
              go_meet
              exact ⟨a6, c6, rfl, O6.out, B6.out⟩
            · have K64' : ¬ (64 - K = 0) := by omega
              go_region_held3 (fun w' => True) (first | trivial | go_keep)
                (first
                  | (go_at_call 15; refine Calls.mono (CP.out _ (by with_reducible first | exact Below.refl _ _ | exact belowDrew _)) ?_; rintro e w5 ⟨g5, c5, rfl, o5, b5⟩; have O5 : Hid (OwnsB w5 W4.heap.size (some ⟨g5, 0, none⟩) ((manM f).take K) c5) := o5; have B5 : Hid (Below W4.heap.size W4 w5) := ofDrewM b5; obtain ⟨a6, c6, w6, run6, o6, b6⟩ := AP.out w5 g5 c5 K B5.out B5.out.size O5.out (.inl rfl) (64 - K); have O6 : Hid (OwnsB w6 W4.heap.size a6 C c6) := o6; have B6 : Hid (Below W4.heap.size W4 w6) := b6; have RUN : Hid _ := run6; clear o5 b5 o6 b6 run6)
                  | (refine step_app rfl (.tmp 59) (.tmp 62) 25 rfl _ _ rfl rfl _ w6 RUN.out ?_))
              go_wp2_with fail
              go_meet
              exact ⟨a6, c6, rfl, O6.out, B6.out⟩
          case rest =>
            obtain ⟨a5, c5, rfl, o5, b5⟩ := hcut
            rename World => w5
            have I5 : Hid (IsB w5 a5 C) := ownsB_isB AC.out o5
            have C5 : Hid (64 ≤ c5) := by have := (ownsB_isL o5).1; rw [CL.out] at this; exact this
            have B5 : Hid (Below W4.heap.size W4 w5) := b5
            clear o5 b5
            obtain ⟨⟨rs, rf, rn⟩, hr⟩ : ∃ r, rdM C = r := ⟨_, rfl⟩
            obtain ⟨WC, hw⟩ : ∃ r, wrongM C = r := ⟨_, rfl⟩
            rw [hr, hw] at MR tc1 tc2 tc3
            have TC1 : Hid _ := tc1
            have TC2 : Hid _ := tc2
            have TC3 : Hid _ := tc3
            clear tc1 tc2 tc3
            unfold Mn.v at MR
            go_wp2_with fail
            refine Calls.mono (MR.out _ _ _ I5.out C5.out) ?_
            rintro e w6 ⟨rfl, b6⟩
            obtain ⟨F, hF, rF, bF⟩ := box21 29 w6 rs rf rn
            have HF : Hid _ := hF
            have B6 : Hid (Below W4.heap.size W4 F) := B5.out.trans ((b6.trans (bF.mono b6.size)).mono B5.out.size)
            have I6 : Hid (IsB F a5 C) := (I5.out.keep b6).keep bF
            obtain ⟨z0, z1, z2⟩ := three21 rF
            have T6 := TN.out.keep B6.out
            obtain ⟨x0, x1, x2⟩ := three21 T6.fresh
            obtain ⟨v0, v1, v2⟩ := three21 T6.old
            have BF : Hid (Below w.heap.size w F) := BW.out.trans (B6.out.mono BW.out.size)
            obtain ⟨n6, hn6⟩ : ∃ n, w6.heap.size = n := ⟨_, rfl⟩
            have HN6 : Hid (w6.heap.size = n6) := hn6
            rw [hn6] at z0 z1 z2
            clear hF rF bF b6 T6 hn6 hr hw
            go_upto_region 13 with (fail)
            rw [HF.out]
            try rw [HN6.out]
            by_cases h64 : K = 64
            · obtain ⟨q1, q2⟩ := TC1.out (.inl h64)
              subst h64
              have e0 := congrArg Mn.s q2
              have e1 := congrArg Mn.f q2
              have e2 := congrArg Mn.n q2
              simp only at e0 e1 e2
              subst q1 e0 e1 e2
              have NQ := EF.out
              go_wp2
              go_ret
              exact ⟨rfl, BF.out⟩
            have k64 : ((K : Int) == 64) = false := by rw [beq_eq_false_iff_ne]; omega
            have k64i : ¬ (K : Int) = 64 := by omega
            by_cases hcb : C = manM f
            · obtain ⟨q1, q2⟩ := TC1.out (.inr hcb)
              have e0 := congrArg Mn.s q2
              have e1 := congrArg Mn.f q2
              have e2 := congrArg Mn.n q2
              simp only at e0 e1 e2
              subst q1 e0 e1 e2
              have dv : decide (C = manM f) = true := decide_eq_true hcb
              rw [dv] at SB
              have NQ := EF.out
              go_wp2_with (go_at_call 11; refine Calls.mono (SB.out _ _ _ I6.out B6.out) ?_; rintro e w' ⟨rfl, rfl⟩)
              go_ret
              exact ⟨rfl, BF.out⟩
            have dvb : decide (C = manM f) = false := decide_eq_false hcb
            rw [dvb] at SB
            by_cases hca : C = oldL false o
            · obtain ⟨q1, q2⟩ := TC2.out (by first | rfl | trivial) hcb hca
              have e0 := congrArg Mn.s q2
              have e1 := congrArg Mn.f q2
              have e2 := congrArg Mn.n q2
              simp only at e0 e1 e2
              subst q1 e0 e1 e2
              have dv : decide (C = oldL false _) = true := decide_eq_true hca
              rw [dv] at SO
              have NQ := EO.out
              go_wp2_with fail
              refine Calls.mono (SB.out _ _ _ I6.out B6.out) ?_
              rintro e w' ⟨rfl, rfl⟩
              go_wp2_with fail
              refine Calls.mono (SO.out _ _ _ I6.out B6.out) ?_
              rintro e w' ⟨rfl, rfl⟩
              go_wp2
              go_ret
              exact ⟨rfl, BF.out⟩
            · obtain ⟨q1, q2⟩ := TC3.out hcb (.inr hca)
              have e0 := congrArg Mn.s q2
              have e1 := congrArg Mn.f q2
              have e2 := congrArg Mn.n q2
              simp only [mnz] at e0 e1 e2
              subst e0 e1 e2
              have w0' : (WC == 0) = false := by rw [beq_eq_false_iff_ne]; exact q1
              have w0i : ¬ WC = 0 := q1
              have dv : decide (C = oldL false o) = false := decide_eq_false hca
              rw [dv] at SO
              have NQ := EZ.out
              go_wp2_with fail
              refine Calls.mono (SB.out _ _ _ I6.out B6.out) ?_
              rintro e w' ⟨rfl, rfl⟩
              go_wp2_with fail
              refine Calls.mono (SO.out _ _ _ I6.out B6.out) ?_
              rintro e w' ⟨rfl, rfl⟩
              go_wp2
              go_ret
              exact ⟨by first | rfl | (simp; done) | (simp; exact w0i), BF.out⟩
theorem manifestTorn_any (o f : Mn) (bl : Bool) (kp : Int) (w : World) (hk : 0 ≤ kp ∧ kp ≤ 255) :
    Calls Try.prog 5 #[.agg #[.int .i64 o.s, .int .i64 o.f, .int .i64 o.n, .int .i64 f.s, .int .i64 f.f, .int .i64 f.n, .bool bl], .int .u8 kp] w fun e w' => e = .returned (.bool true) ∧ Below w.heap.size w w' := torn_try o f bl kp w hk.1 hk.2
end Go.Proofs.Ytofmicbhheebiaa
