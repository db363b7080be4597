/- Layer 19: the document's Count and Lay. -/
import Derived.Test.YtgmmgklcndnehaaDoorGzAH
import Derived.Test.YtgmmgklcndnehaaDoorGzAF
namespace Go.Proofs.YtgmmgklcndnehaaDoor
open Go.RowKit Go.Maps
set_option linter.unusedVariables false
set_option maxRecDepth 4000

set_option maxHeartbeats 2000000 in
theorem dcount_of (n : Nat) (v : Int) (w : World) (hn : n ≤ 9223372036854775807) (hv : ((cntC n : Nat) : Int) = v) :
    Calls Tryd.prog 15 #[.int .i64 (n : Nat)] w fun e w' => e = .returned (.int .i64 v) ∧ w = w' := by
  subst hv
  by_cases h1 : (n : Int) < 1
  · obtain rfl : n = 0 := by omega
    go_enter Tryd.func15, Tryd.ntmps15
    go_wp2
    go_ret
    exact ⟨rfl, rfl⟩
  · have e1 : (n : Int).tdiv 56 = ((n / 56 : Nat) : Int) := by rw [Int.tdiv_eq_ediv_of_nonneg (by omega)]; omega
    have e2 : (n : Int).tmod 56 = ((n % 56 : Nat) : Int) := by rw [Int.tmod_eq_emod_of_nonneg (by omega)]; omega
    obtain ⟨D, hD⟩ : ∃ D : Int, ((n / 56 : Nat) : Int) = D := ⟨_, rfl⟩
    obtain ⟨M, hM⟩ : ∃ M : Int, ((n % 56 : Nat) : Int) = M := ⟨_, rfl⟩
    rw [hD] at e1
    rw [hM] at e2
    have w1 : IntKind.i64.wrap D = D := by rw [IntKind.wrap_i64]; omega
    have w2 : IntKind.i64.wrap M = M := by rw [IntKind.wrap_i64]; omega
    have w3 : IntKind.i64.wrap (D + 1) = D + 1 := by rw [IntKind.wrap_i64]; omega
    by_cases hm : M = 0
    · have R : Hid (((cntC n : Nat) : Int) = D) := by show _ = _; unfold cntC; omega
      subst hm
      clear hD hM
      go_enter Tryd.func15, Tryd.ntmps15
      go_wp2
      go_ret
      exact ⟨by rw [R.out]; rfl, rfl⟩
    · have R : Hid (((cntC n : Nat) : Int) = D + 1) := by show _ = _; unfold cntC; omega
      have hm1 : (M != 0) = true := by rw [bne_iff_ne]; exact hm
      clear hD hM
      go_enter Tryd.func15, Tryd.ntmps15
      go_wp2
      go_ret
      exact ⟨by rw [R.out]; rfl, rfl⟩

/-- A write of the document's: its sector, and where its bytes lie. -/
structure En where
  s : Int
  a : Option Addr
  c : Nat
  b : List Int
def cellsO : List En → List Value
  | [] => []
  | x :: r => .int .i64 x.s :: .slice x.a 64 x.c :: cellsO r
theorem cellsO_append : ∀ (a b : List En), cellsO (a ++ b) = cellsO a ++ cellsO b
  | [], _ => rfl
  | x :: a, b => by simp [cellsO, cellsO_append a b]
theorem cellsO_at : ∀ (qs : List En) (i : Nat) (h : i < qs.length), (cellsO qs)[i * 2]? = some (.int .i64 qs[i].s) ∧ (cellsO qs)[i * 2 + 1]? = some (.slice qs[i].a 64 qs[i].c)
  | x :: l, 0, _ => by simp [cellsO]
  | x :: l, i + 1, h => by
    have := cellsO_at l i (by simpa using h)
    rw [show (i + 1) * 2 = i * 2 + 2 by omega, show (i * 2 + 2) + 1 = i * 2 + 1 + 2 by omega]
    simpa [cellsO] using this
/-- Writes in a row of one's own. -/
def RowO (w : World) (base : Nat) (a : Option Addr) (qs : List En) (cap : Nat) : Prop := w.ownsRow base 37 2 (.slice a qs.length cap) qs.length (cellsO qs)
theorem infoO : (Tryd.prog.info? 37).map (fun i => (i.zero, i.size, i.bytes)) = some (some (.agg #[.int .i64 0, .slice none 0 0]), 2, 32) := by kernel_rfl
theorem appO_run (w : World) (base : Nat) (hbase : base ≤ w.heap.size) (ap : Option Addr) (qs : List En) (cp : Nat) (hr : RowO w base ap qs cp) (y : En) (q c : Nat) (hq : w.heap[q]? = some (.cells #[.int .i64 y.s, .slice y.a 64 y.c] 37 (0, 0))) (hlen : qs.length ≤ 1000000) :
    ∃ a' cap' w', (Builtin.append_ #[26, 26] 26 #[.slice ap qs.length cp, .slice (some ⟨q, 0, none⟩) 1 c]).run Tryd.prog w = .ok (.slice a' (qs.length + 1) cap') w' ∧ RowO w' base a' (qs ++ [y]) cap' ∧ w.grownBy w' (Value.slice ap qs.length cp).ownBlock := by
  obtain ⟨i0, hi, hz0, hz1, hz2⟩ := info_parts infoO
  obtain ⟨v', w', hrun, h2, h3, h4⟩ := run_append_own (P := Tryd.prog) w base 26 26 37 i0 (.agg #[.int .i64 0, .slice none 0 0]) 2 32 Tryd.underlying26 hi hz0 hz1 hz2 rfl (by decide)
    (.slice ap qs.length cp) qs.length (cellsO qs) hr ⟨q, 0, none⟩ 1 c [.int .i64 y.s, .slice y.a 64 y.c] rfl (by
      intro j u hj
      rw [addr_add, Nat.zero_add, cell_of_row w q j _ _ _ hq]
      simpa using hj) (by intro u hu; simp at hu; rcases hu with rfl | rfl <;> rfl) (by unfold maxLen; omega) (by omega) hbase
  have hf : ∃ a' cap', v' = .slice a' (qs.length + 1) cap' := by
    obtain ⟨_, ⟨rfl, h0⟩ | ⟨g, c', cur, rfl, _⟩⟩ := h2
    · omega
    · exact ⟨_, _, rfl⟩
  obtain ⟨a', cap', rfl⟩ := hf
  have e : cellsO (qs ++ [y]) = cellsO qs ++ [.int .i64 y.s, .slice y.a 64 y.c] := by rw [cellsO_append]; rfl
  exact ⟨a', cap', w', hrun, by rw [RowO, List.length_append, e]; exact h2, h3⟩
theorem RowO.cell {w : World} {base cap i : Nat} {a : Option Addr} {qs : List En} (h : RowO w base a qs cap) (hi : i < qs.length) : ∃ g, a = some ⟨g, 0, none⟩ ∧ base ≤ g ∧ g < w.heap.size ∧ w.cell? ⟨g, i * 2, none⟩ = some (.int .i64 qs[i].s) ∧ w.cell? ⟨g, i * 2 + 1, none⟩ = some (.slice qs[i].a 64 qs[i].c) := by
  have h' := h
  obtain ⟨_, ⟨h1, h2⟩ | ⟨g, c', cur, h1, hg, h2, h3, _⟩⟩ := h
  · omega
  · cases h1
    obtain ⟨e0, e1⟩ := cellsO_at qs i hi
    refine ⟨g, rfl, hg, (Array.getElem?_eq_some_iff.1 h2).1, ?_, ?_⟩
    · rw [World.ownsRow.cellAt h' (i * 2) (by omega)]; exact e0
    · rw [World.ownsRow.cellAt h' (i * 2 + 1) (by omega)]; exact e1
theorem RowO.keep {w w' : World} {base cap : Nat} {a : Option Addr} {qs : List En} (h : RowO w base a qs cap) (hb : Below w.heap.size w w') : RowO w' base a qs cap := by
  obtain ⟨q1, q2 | ⟨g', c', cur, r1, r2, r3, r4⟩⟩ := h
  · exact ⟨q1, .inl q2⟩
  · exact ⟨q1, .inr ⟨g', c', cur, r1, r2, by rw [hb.block g' (Array.getElem?_eq_some_iff.1 r3).1]; exact r3, r4⟩⟩
/-- Writes that can be read: each one's bytes. -/
structure WrR (w : World) (N : Nat) (a : Option Addr) (c : Nat) (qs : List En) : Prop where
  row : RowO w N a qs c
  by' : ∀ x ∈ qs, OwnsB w N x.a x.b x.c ∧ x.b.length = 64 ∧ AllB x.b
theorem WrR.nil (w : World) (N : Nat) : WrR w N none 0 [] := ⟨World.ownsRow_nil _ _ _ _, fun x hx => by cases hx⟩
theorem WrR.keep {w w' : World} {N c : Nat} {a : Option Addr} {qs : List En} (h : WrR w N a c qs) (hb : Below w.heap.size w w') : WrR w' N a c qs := ⟨h.row.keep hb, fun x hx => ⟨(h.by' x hx).1.keep hb, (h.by' x hx).2⟩⟩
/-- One write more. -/
theorem WrR.add {w : World} {N c : Nat} {a : Option Addr} {qs : List En} (h : WrR w N a c qs) (hN : N ≤ w.heap.size) (y : En) (hy : OwnsB w N y.a y.b y.c ∧ y.b.length = 64 ∧ AllB y.b) (hlen : qs.length ≤ 100000) :
    ∃ a' c' w', (Builtin.append_ #[26, 26] 26 #[.slice a qs.length c, .slice (some ⟨w.heap.size, 0, none⟩) 1 1]).run Tryd.prog (w.alloc (.cells #[.int .i64 y.s, .slice y.a 64 y.c] 37)) = .ok (.slice a' (qs.length + 1) c') w' ∧ WrR w' N a' c' (qs ++ [y]) ∧ Below N w w' := by
  have b0 : Below w.heap.size w (w.alloc (.cells #[.int .i64 y.s, .slice y.a 64 y.c] 37)) := (Below.refl _ w).alloc (Nat.le_refl _) _
  have h1 := h.keep b0
  obtain ⟨a', c', w', r1, r2, g⟩ := appO_run _ N (Nat.le_trans hN b0.size) a qs c h1.row y w.heap.size 1 (Go.heap_alloc_new w _) (by omega)
  have hk := owns_kind (m := qs.length) rfl h1.row
  have kb : ∀ (x : En), OwnsB (w.alloc (.cells #[.int .i64 y.s, .slice y.a 64 y.c] 37)) N x.a x.b x.c → OwnsB w' N x.a x.b x.c := fun x hx => by
    obtain ⟨q1, q2 | ⟨g', c2, cur, s1, s2, s3, s4⟩⟩ := hx
    · exact ⟨q1, .inl q2⟩
    · exact ⟨q1, .inr ⟨g', c2, cur, s1, s2, by rw [g.block g' (Array.getElem?_eq_some_iff.1 s3).1 (fun e => by obtain ⟨_, cu, hc⟩ := hk g' e.symm; rw [s3] at hc; cases hc)]; exact s3, s4⟩⟩
  refine ⟨a', c', w', r1, ⟨r2, fun x hx => ?_⟩, grown_belowD (b0.mono hN) g (fun k e => (hk k e).1) (Nat.le_trans hN b0.size)⟩
  rcases List.mem_append.1 hx with hx | hx
  · exact ⟨kb x (h1.by' x hx).1, (h1.by' x hx).2⟩
  · rw [List.mem_singleton.1 hx]
    exact ⟨kb y (hy.1.keep b0), hy.2⟩
end Go.Proofs.YtgmmgklcndnehaaDoor

/- Layer 19: the document's Lay. -/
namespace Go.Proofs.YtgmmgklcndnehaaDoor
open Go.RowKit Go.Maps
set_option linter.unusedVariables false
set_option maxRecDepth 4000

theorem rowB_owns {w : World} {g base : Nat} {l : List Int} (h : RowB w g 5 l) (hb : base ≤ g) (hl : l.length ≤ maxLen) : OwnsB w base (some ⟨g, 0, none⟩) l l.length :=
  ⟨by simp, .inr ⟨g, l.length, _, rfl, hb, h, Nat.le_refl _, hl, by simp [cellsB_len], by rw [Nat.mul_one]; rw [List.take_of_length_le (by rw [cellsB_len]; exact Nat.le_refl _)]; rfl⟩⟩
theorem head_sb {P : List Int} (h : AllB P) (nx : Int) : 0 ≤ sumI (headC P nx) ∧ sumI (headC P nx) ≤ 18446744073709551615 := by
  have := sumI_bd (headC_allB h nx); omega
theorem head_ws {P : List Int} (h : AllB P) (nx : Int) : IntKind.u64.wrap (sumI (headC P nx)) = sumI (headC P nx) := by
  have := sumI_bd (headC_allB h nx); rw [IntKind.wrap_u64]; omega
theorem put_some {w : World} {a : Option Addr} {n : Int} (h : IsB w a (putL 4 n)) : ∃ ad, a = some ad := by
  obtain ⟨_, e | ⟨b, off, e, _⟩⟩ := h
  · have := putL_len 4 n; rw [e] at this; simp at this
  · exact ⟨_, e⟩
/-- What the document's Lay answers. -/
def DyP (w : World) (b l : List Int) (e : Ending) (w' : World) : Prop :=
  Below w.heap.size w w' ∧ ((layEC b.length l ≠ 0 ∧ e = .returned (.tuple #[.slice none 0 0, .int .i64 (layEC b.length l)])) ∨
    (layEC b.length l = 0 ∧ ∃ a c qs, e = .returned (.tuple #[.slice a qs.length c, .int .i64 0]) ∧ WrR w' w.heap.size a c qs ∧ qs.map (fun x => (x.s, x.b)) = wrC b l))
theorem DyP.bad {w w' : World} {b l : List Int} {c : Int} (hc : layEC b.length l = c) (h0 : c ≠ 0) (bb : Below w.heap.size w w') : DyP w b l (.returned (.tuple #[.slice none 0 0, .int .i64 c])) w' := by
  subst hc
  exact ⟨bb, .inl ⟨h0, rfl⟩⟩
set_option maxRecDepth 20000 in
set_option maxHeartbeats 4000000 in
theorem dlay_long (a al : Option Addr) (cap cl : Nat) (b l : List Int) (w : World) (hb : 65542 < b.length) (hbm : b.length ≤ maxLen) :
    Calls Tryd.prog 11 #[.slice a b.length cap, .slice al l.length cl] w (DyP w b l) := by
  have R : Hid (layEC b.length l = 6) := if_pos hb
  have h1 : (65542 : Int) < (b.length : Int) := by omega
  clear hb
  go_enter Tryd.func11, Tryd.ntmps11
  go_wp2
  go_ret2
  exact DyP.bad R.out (by decide) (Below.refl _ _)
set_option maxRecDepth 20000 in
set_option maxHeartbeats 4000000 in
theorem dlay_count (a al : Option Addr) (cap cl : Nat) (b l : List Int) (w : World) (hb : b.length ≤ 65542) (hl : l.length ≤ maxLen) (hc : l.length ≠ cntC b.length) :
    Calls Tryd.prog 11 #[.slice a b.length cap, .slice al l.length cl] w (DyP w b l) := by
  have R : Hid (layEC b.length l = 2) := by show _ = _; unfold layEC; rw [if_neg (by omega), if_neg (fun q => hc q.1)]
  have h1 : ¬ (65542 : Int) < (b.length : Int) := by omega
  obtain ⟨C, hC⟩ : ∃ C, cntC b.length = C := ⟨_, rfl⟩
  have CN : Hid (Calls Tryd.prog 15 #[.int .i64 (b.length : Nat)] w fun e w' => e = .returned (.int .i64 (C : Nat)) ∧ w = w') := dcount_of _ _ w (by omega) (by rw [hC])
  rw [hC] at hc
  have hne : ((l.length : Int) != (C : Int)) = true := by rw [bne_iff_ne]; omega
  clear hb hC hl hc
  go_enter Tryd.func11, Tryd.ntmps11
  go_wp2_with (go_at_call 15; refine Calls.mono CN.out ?_; rintro e w' ⟨rfl, rfl⟩)
  go_ret2
  exact DyP.bad R.out (by decide) (Below.refl _ _)
theorem ne_take {l : List Int} {s : Int} {k : Nat} (h : ∀ (i : Nat) (hi : i < l.length), i < k → ¬ l[i] = s) : ¬ s ∈ l.take k := fun hm => by
  obtain ⟨j, hj, e⟩ := List.mem_iff_getElem.1 hm
  have hj' : j < k ∧ j < l.length := by simp at hj; omega
  rw [List.getElem_take] at e
  exact h j hj'.2 hj'.1 e

end Go.Proofs.YtgmmgklcndnehaaDoor
