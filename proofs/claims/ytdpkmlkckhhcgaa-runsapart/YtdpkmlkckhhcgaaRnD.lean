/- Rows of runs of one's own; what Grow does; slicing. -/
import Derived.Test.YtdpkmlkckhhcgaaRnC
namespace Go.Proofs.Ytdpkmlkckhhcgaa
open Go.RowKit
set_option linter.unusedVariables false

/-- A slice of runs in a row of one's own, in a block of the set S. -/
def RowAt (w : World) (S : Nat → Prop) (a : Option Addr) (L : List (Nat × Nat)) (cap : Nat) : Prop :=
  cap ≤ 9223372036854775807 ∧ ((a = none ∧ L = [] ∧ cap = 0) ∨ ∃ g xs, a = some ⟨g, 0, none⟩ ∧ S g ∧ Row w g xs ∧ xs.length = cap ∧ xs.take L.length = L)
theorem RowAt.nil (w : World) (S : Nat → Prop) : RowAt w S none [] 0 := ⟨by omega, .inl ⟨rfl, rfl, rfl⟩⟩
theorem RowAt.len {w : World} {S : Nat → Prop} {a : Option Addr} {L : List (Nat × Nat)} {cap : Nat} (h : RowAt w S a L cap) : L.length ≤ cap := by
  obtain ⟨_, ⟨_, rfl, rfl⟩ | ⟨g, xs, _, _, _, h1, h2⟩⟩ := h
  · simp
  · have := congrArg List.length h2
    simp at this; omega
theorem RowAt.isL {w : World} {S : Nat → Prop} {a : Option Addr} {L : List (Nat × Nat)} {cap : Nat} (h : RowAt w S a L cap) : IsL w a L := by
  obtain ⟨_, ⟨_, rfl, rfl⟩ | ⟨g, xs, rfl, _, hr, h1, h2⟩⟩ := h
  · exact .inl rfl
  · have := hr.isL (l := L) 0 (by simpa using h2)
    simpa using this
theorem RowAt.same {w w' : World} {S : Nat → Prop} {a : Option Addr} {L : List (Nat × Nat)} {cap : Nat} (h : RowAt w S a L cap) (he : ∀ (i : Nat) (o : Obj), w.heap[i]? = some o → S i → w'.heap[i]? = some o) : RowAt w' S a L cap := by
  obtain ⟨h0, h1 | ⟨g, xs, rfl, hs, hr, h1, h2⟩⟩ := h
  · exact ⟨h0, .inl h1⟩
  · exact ⟨h0, .inr ⟨g, xs, rfl, hs, he g _ hr hs, h1, h2⟩⟩
theorem RowAt.mono {w : World} {S T : Nat → Prop} {a : Option Addr} {L : List (Nat × Nat)} {cap : Nat} (h : RowAt w S a L cap) (he : ∀ i, i < w.heap.size → S i → T i) : RowAt w T a L cap := by
  obtain ⟨h0, h1 | ⟨g, xs, rfl, hs, hr, h1, h2⟩⟩ := h
  · exact ⟨h0, .inl h1⟩
  · exact ⟨h0, .inr ⟨g, xs, rfl, he g hr.lt hs, hr, h1, h2⟩⟩
theorem old_below {w w' : World} {S : Nat → Prop} (hb : Below w.heap.size w w') : ∀ (i : Nat) (o : Obj), w.heap[i]? = some o → S i → w'.heap[i]? = some o := fun i o ho _ => by
  rw [hb.block i (Array.getElem?_eq_some_iff.1 ho).1]; exact ho
theorem old_tu {w w' : World} {S T : Nat → Prop} (ht : Tu T w w') (hd : ∀ i, i < w.heap.size → S i → ¬ T i) : ∀ (i : Nat) (o : Obj), w.heap[i]? = some o → S i → w'.heap[i]? = some o := fun i o ho hs =>
  ht.block i o ho (hd i (Array.getElem?_eq_some_iff.1 ho).1 hs)
theorem old_only {w w' : World} {S : Nat → Prop} {g : Nat} (ho : Only g w w') (hd : ¬ S g) : ∀ (i : Nat) (o : Obj), w.heap[i]? = some o → S i → w'.heap[i]? = some o := fun i o h hs => by
  rw [ho.block i (fun e => hd (e ▸ hs))]; exact h

theorem zeroC_R (n : Nat) : Builtin.zeroCells #[.int .i64 0, .int .i64 0] n = (cellsR (List.replicate n (0, 0))).toArray := by
  apply Array.toList_inj.1
  rw [zeroCells_R]

set_option maxHeartbeats 1000000 in
theorem grow_any (S : Nat → Prop) (a : Option Addr) (L : List (Nat × Nat)) (cap n : Nat) (w : World) (h : RowAt w S a L cap) (hS : ∀ i, w.heap.size ≤ i → S i) (hl : L.length ≤ 1000000) (hn : n ≤ 1000000) :
    Calls Try.prog 40 #[.slice a L.length cap, .int .i64 (n : Nat)] w fun e w' => ∃ a' cap', e = .returned (.slice a' L.length cap') ∧ RowAt w' S a' L cap' ∧ L.length + n ≤ cap' ∧ Below w.heap.size w w' := by
  have H : Hid (RowAt w S a L cap) := h
  have hlc := h.len
  have hc := h.1
  by_cases hroom : L.length + n ≤ cap
  · clear h
    obtain ⟨l, hL⟩ : ∃ l, L.length = l := ⟨_, rfl⟩
    have EL : Hid (L.length = l) := hL
    rw [hL] at hl hlc hroom ⊢
    clear hL
    have h1 : ¬ ((n : Int) < 0) := by omega
    have h4 : ¬ ((n : Int) - ((cap : Int) - (l : Int)) > 0) := by omega
    go_enter Try.func40, Try.ntmps40
    go_wp2
    go_ret
    exact ⟨a, cap, rfl, H.out, hroom, Below.refl _ _⟩
  · obtain ⟨i0, hi0, hz0, hs0, hb0⟩ := info_parts Try.info41
    obtain ⟨xs, hxs⟩ : ∃ xs : List (Nat × Nat), xs.length = cap ∧ xs.take L.length = L ∧ (Builtin.firstCells i0.size cap (.slice a cap cap)).run Try.prog w.drew = .ok (cellsR xs).toArray w.drew := by
      obtain ⟨_, ⟨rfl, rfl, rfl⟩ | ⟨g, xs, rfl, _, hr, h1, h2⟩⟩ := h
      · exact ⟨[], rfl, rfl, run_firstCells_none w.drew i0.size 0 0 0⟩
      · refine ⟨xs, h1, h2, run_firstCells_some w.drew i0.size cap _ cap cap (cellsR xs) (by rw [cellsR_len, hs0, h1]) (fun j v hj => ?_)⟩
        rw [addr_add, Nat.zero_add]
        have := cell_of_row w g j _ _ _ hr
        have e : w.drew.cell? ⟨g, j, none⟩ = w.cell? ⟨g, j, none⟩ := rfl
        rw [e, this]; simpa using hj
    have hGn : L.length + n ≤ grownCap w (L.length + n) cap 41 := grownCap_ge w _ _ _
    have hGm := grownCap_le_maxLen w (L.length + n) cap 41 (by unfold maxLen; omega)
    unfold maxLen at hGm
    have hck : cap + (L.length + n - cap) = L.length + n := by omega
    have hrz : ∀ ty, (Builtin.append_ #[33, 3] ty #[.slice a cap cap, .int .i64 ((n : Int) - ((cap : Int) - (L.length : Int)))]).run Try.prog w =
        .ok (.slice (some ⟨w.heap.size, 0, none⟩) (L.length + n) (grownCap w (L.length + n) cap 41)) (w.drew.alloc (.cells (cellsR (xs ++ List.replicate (L.length + n - cap) (0, 0) ++ List.replicate (grownCap w (L.length + n) cap 41 - (L.length + n)) (0, 0))).toArray 41)) := fun ty => by
      have h := Lib.run_append_grow_zeros w 33 3 ty 41 i0 _ .i64 .i64 Try.underlying33 Try.underlying3 hi0 hz0 a cap cap (cellsR xs) hxs.2.2 (L.length + n - cap) (by omega) (by omega) (by omega) (by omega) (by rw [hb0]; omega)
        (by rw [hck, hb0]; exact growslice_fits (by omega) (by omega))
      rw [hck] at h
      rw [show (n : Int) - ((cap : Int) - (L.length : Int)) = ((L.length + n - cap : Nat) : Int) by omega, h]
      simp only [Value.cells, zeroC_R, cellsR_append, List.append_toArray]
    obtain ⟨G, hG⟩ : ∃ G, grownCap w (L.length + n) cap 41 = G := ⟨_, rfl⟩
    rw [hG] at hrz hGn hGm
    have RN : Hid (RowAt (w.drew.alloc (.cells (cellsR (xs ++ List.replicate (L.length + n - cap) (0, 0) ++ List.replicate (G - (L.length + n)) (0, 0))).toArray 41)) S (some ⟨w.heap.size, 0, none⟩) L G) := by
      refine ⟨by omega, .inr ⟨w.heap.size, xs ++ List.replicate (L.length + n - cap) (0, 0) ++ List.replicate (G - (L.length + n)) (0, 0), rfl, hS _ (Nat.le_refl _), Go.heap_alloc_new w.drew _, ?_, ?_⟩⟩
      · simp [hxs.1]; omega
      · rw [List.append_assoc, List.take_append_of_le_length (by rw [hxs.1]; exact hlc)]; exact hxs.2.1
    have BN : Hid (Below w.heap.size w (w.drew.alloc (.cells (cellsR (xs ++ List.replicate (L.length + n - cap) (0, 0) ++ List.replicate (G - (L.length + n)) (0, 0))).toArray 41))) := (Below.refl _ w).drew.alloc (Nat.le_refl _) _
    have hnil : a = none → cap = 0 ∧ L.length = 0 := by
      intro e
      obtain ⟨_, ⟨_, rfl, rfl⟩ | ⟨g, xs, rfl, _⟩⟩ := h
      · exact ⟨rfl, rfl⟩
      · cases e
    obtain ⟨wz, hwz⟩ : ∃ wz, w.drew.alloc (.cells (cellsR (xs ++ List.replicate (L.length + n - cap) (0, 0) ++ List.replicate (G - (L.length + n)) (0, 0))).toArray 41) = wz := ⟨_, rfl⟩
    rw [hwz] at hrz RN BN
    clear hxs hck hG h hwz hi0 hz0 hs0 hb0
    obtain ⟨l, hL⟩ : ∃ l, L.length = l := ⟨_, rfl⟩
    have EL : Hid (L.length = l) := hL
    rw [hL] at hl hlc hroom hrz hGn hnil ⊢
    clear hL
    have h1 : ¬ ((n : Int) < 0) := by omega
    have h4 : (n : Int) - ((cap : Int) - (l : Int)) > 0 := by omega
    have RZ : Hid (∀ ty, (Builtin.append_ #[33, 3] ty #[.slice a cap cap, .int .i64 ((n : Int) - ((cap : Int) - (l : Int)))]).run Try.prog w = .ok (.slice (some ⟨w.heap.size, 0, none⟩) (l + n) G) wz) := hrz
    clear hrz
    go_enter Try.func40, Try.ntmps40
    cases a with
    | none =>
      obtain ⟨rfl, rfl⟩ := hnil rfl
      go_wp2_with (at_builtin; refine Lib.wpList_append_run _ rfl _ _ _ _ rfl _ _ rfl rfl _ _ (RZ.out _) ?_)
      all_goals (go_ret; exact ⟨_, G, rfl, RN.out, by omega, BN.out⟩)
    | some ad =>
      obtain ⟨ab, ao, asp⟩ := ad
      go_wp2_with (at_builtin; refine Lib.wpList_append_run _ rfl _ _ _ _ rfl _ _ rfl rfl _ _ (RZ.out _) ?_)
      all_goals (go_ret; exact ⟨_, G, rfl, RN.out, hGn, BN.out⟩)

/-- s[k:]. -/
theorem wpList_sliceR {ops : Array Oper} {rest : List Oper} {o : Oper} {a : Act} {Q : Exit → Act → World → Prop} {w : World} (hgd : o.guard = none) (x lo : Operand)
    (ho : o.op = .slice 33 x (some lo) none none) (a0 : Option Addr) (len cap k : Nat) (kI : Int) (hx : a.eval x = .slice a0 len cap) (hl : a.eval lo = .int .i64 kI) (hkI : kI = (k : Nat)) (hk : k ≤ len)
    (h : ∀ a2, a2 = (if cap = k then a0 else a0.map (·.add (k * 2))) → wpList Try.prog ops Q rest (a.put o.dst (.slice a2 (len - k) (cap - k))) w) : wpList Try.prog ops Q (o :: rest) a w := by
  refine wpList_plain hgd fun K' hK' => ?_
  subst hkI
  have hs : ∀ w, (Go.sizeOf 41).run Try.prog w = .ok 2 w := fun w => by kernel_rfl
  have hrun : (Instr.slice 33 (.slice a0 len cap) (some (.int .i64 (k : Nat))) none none).run Try.prog w = .ok (.slice (if cap = k then a0 else a0.map (·.add (k * 2))) (len - k) (cap - k)) w := by
    simp [Instr.slice, run_underlying Try.underlying33, Instr.sliceBounds, run_sliceBound, hk, hs]
  unfold Oper.wp
  simp [execOp, ho, hx, hl, Instr.sliceAt, run_underlying Try.underlying33, hrun, Result.andThen]
  exact hK' _ _ (h _ rfl)
end Go.Proofs.Ytdpkmlkckhhcgaa
