/- What Read answers. -/
import Derived.Test.YtofmicbhheebiaaDoorDkD
namespace Go.Proofs.YtofmicbhheebiaaDoor
open Go.RowKit Go.Maps
set_option linter.unusedVariables false
set_option maxRecDepth 4000

theorem read_closed (base b m : Nat) (d : Dk) (i : Int) (w : World) (h : IsD w base b m d) (hc : closedE d i ≠ 0) :
    Calls Tryd.prog 30 #[.pointer (some ⟨b, 0, none⟩), .int .i64 i] w fun e w' => e = .returned (.tuple #[.slice none 0 0, .int .i64 (closedE d i)]) ∧ w = w' := by
  have H : Hid (IsD w base b m d) := h
  obtain ⟨E, hE⟩ : ∃ E, closedE d i = E := ⟨_, rfl⟩
  have EE : Hid (closedE d i = E) := hE
  rw [hE] at hc ⊢
  clear h hE
  go_enter Tryd.func30, Tryd.ntmps30
  go_wp2_with (go_at_call 22; refine (closed_any base b m d i _ H.out).mono ?_; rw [EE.out]; rintro e w' ⟨rfl, rfl⟩)
  go_ret2
  exact ⟨rfl, rfl⟩

set_option maxHeartbeats 2000000 in
theorem read_open (base b m : Nat) (d : Dk) (i : Int) (w : World) (h : IsD w base b m d) (hc : closedE d i = 0) :
    Calls Tryd.prog 30 #[.pointer (some ⟨b, 0, none⟩), .int .i64 i] w fun e w' => e = .returned (.tuple #[.slice (some ⟨w.heap.size, 0, none⟩) 64 64, .int .i64 0]) ∧ RowB w' w.heap.size 74 (readL d i) ∧ Below w.heap.size w w' := by
  have H : Hid (IsD w base b m d) := h
  obtain ⟨hd, hi0, hi1⟩ := closedE_zero.1 hc
  have EE : Hid (closedE d i = 0) := hc
  obtain ⟨k, rfl⟩ : ∃ k : Nat, i = k := ⟨i.toNat, by omega⟩
  have hR : readL d k = lastB d.pend k (d.sure k) := by rw [readL, if_pos hc]; simp
  have few := h.ok.few
  have hsec := (h.ok.sec k (by omega)).1
  have hwr := h.ok.wr
  obtain ⟨bs, bn, ap, cp, ns, nn, f, g, h, _, _, _⟩ := h
  have h1 : w.cell? ⟨b, 1, none⟩ = some (.map (some bs)) := h.cell 1
  have hlook := h.sure.look (i := (k : Int)) (by omega)
  rw [h.fit k (by omega)] at hlook
  have hbw : b < w.heap.size := (Array.getElem?_eq_some_iff.1 h.box).1
  have HA : Hid (DiskAt w base b bs bn ap cp ns nn f g d) := h
  obtain ⟨S, hS⟩ : ∃ S, d.sure k = S := ⟨_, rfl⟩
  rw [hS] at hlook hsec hR
  have HS : Hid (S.length = 64) := hsec
  rcases h.new k with ⟨hg, hl⟩ | ⟨j, hj, hg, hl⟩
  · rw [hl] at hR
    have ER : Hid (readL d k = S) := hR
    have HG : Hid (g k = none) := hg
    clear h hc hd hR hl hg hS hwr hsec
    go_enter Tryd.func30, Tryd.ntmps30
    go_wp2_with (first
      | (go_at_call 22; refine (closed_any base b m d k _ H.out).mono ?_; rw [EE.out]; rintro e w' ⟨rfl, rfl⟩)
      | (refine wpList_allocB rfl rfl ?_; intro w1 r1 b1 s1; have B1 : Hid (Below w.heap.size w w1) := b1; have R1 : Hid (RowB w1 w.heap.size 74 zeros) := r1; clear r1 b1 s1)
      | (refine wpList_storeB rfl _ _ rfl w.heap.size S rfl rfl 74 zeros R1.out zeros_len HS.out ?_; intro w2 r2 o2; have B2 : Hid (Below w.heap.size w w2) := B1.out.trans (o2.below (Nat.le_refl _)); have R2 : Hid (RowB w2 w.heap.size 74 S) := r2; have A2 := HA.out.same (same_below B2.out); have h3 : w2.cell? ⟨b, 3, none⟩ = some (.map (some bn)) := A2.cell 3; obtain ⟨c, hl2, _⟩ := A2.newest.look (i := (k : Int)) (by omega); rw [HG.out] at hl2; clear r2 o2 A2; simp only [Act.put]))
    go_ret2
    rw [ER.out]
    exact ⟨rfl, R2.out, B2.out⟩
  · rw [hl] at hR
    have ER : Hid (readL d k = d.pend[j].by) := hR
    have HG : Hid (g k = some j) := hg
    obtain ⟨gp, rfl, _, hcp, _, hrg⟩ := h.row.some hj (fun x hx => (hwr x hx).2.1)
    have hr2 := range_tail hrg
    obtain ⟨Y, hY⟩ : ∃ Y, d.pend[j].by = Y := ⟨_, rfl⟩
    have hyl := (hwr _ (List.getElem_mem hj)).2.1
    rw [hY] at ER hr2 hyl
    have HY : Hid (Y.length = 64) := hyl
    have HR2 : Hid (w.rangeAt gp (j * 65 + 1) (cellsB Y)) := hr2
    have hgp : gp < w.heap.size := by
      have := hr2 0 (.int .u8 (Y.getD 0 0)) (cellsB_at Y 0 (by omega))
      exact block_lt_of_cell this
    clear h hc hd hR hl hg hS hwr hsec hrg hr2 hY hyl
    go_enter Tryd.func30, Tryd.ntmps30
    go_wp2_with (first
      | (go_at_call 22; refine (closed_any base b m d k _ H.out).mono ?_; rw [EE.out]; rintro e w' ⟨rfl, rfl⟩)
      | (refine wpList_allocB rfl rfl ?_; intro w1 r1 b1 s1; have B1 : Hid (Below w.heap.size w w1) := b1; have R1 : Hid (RowB w1 w.heap.size 74 zeros) := r1; clear r1 b1 s1)
      | (refine wpList_load_mid rfl 74 _ rfl gp (j * 65 + 1) rfl (cellsB Y) _ HR3.out Tryd.underlying74 rfl (by rw [size64]; simp [cellsB_len, HY.out]) ?_)
      | (have _ := R2; refine wpList_storeB rfl _ _ rfl w.heap.size Y rfl rfl 74 S R2.out HS.out HY.out ?_; intro w3 r3 o3; have B3 : Hid (Below w.heap.size w w3) := B2.out.trans (o3.below (Nat.le_refl _)); have R3 : Hid (RowB w3 w.heap.size 74 Y) := r3; clear r3 o3; simp only [Act.put])
      | (refine wpList_storeB rfl _ _ rfl w.heap.size S rfl rfl 74 zeros R1.out zeros_len HS.out ?_; intro w2 r2 o2; have B2 : Hid (Below w.heap.size w w2) := B1.out.trans (o2.below (Nat.le_refl _)); have R2 : Hid (RowB w2 w.heap.size 74 S) := r2; have A2 := HA.out.same (same_below B2.out); have h3 : w2.cell? ⟨b, 3, none⟩ = some (.map (some bn)) := A2.cell 3; have h2 : w2.cell? ⟨b, 2, none⟩ = some (.slice (some ⟨gp, 0, none⟩) d.pend.length cp) := A2.cell 2; obtain ⟨c, hl2, hcj⟩ := A2.newest.look (i := (k : Int)) (by omega); obtain rfl := hcj j HG.out; rw [HG.out] at hl2; have HR3 : Hid (w2.rangeAt gp (j * 65 + 1) (cellsB Y)) := (fun q v hv => (B2.out.cell (p := ⟨gp, j * 65 + 1 + q, none⟩) hgp).trans (HR2.out q v hv)); clear r2 o2 A2 hcj; simp only [Act.put]))
    go_ret2
    rw [ER.out]
    exact ⟨rfl, R3.out, B3.out⟩
end Go.Proofs.YtofmicbhheebiaaDoor

/- A write as a value; rows of writes: one more. -/
namespace Go.Proofs.YtofmicbhheebiaaDoor
open Go.RowKit Go.Maps
set_option linter.unusedVariables false
set_option maxRecDepth 4000

theorem fold_fill : ∀ (l : List Value) (off n : Nat) (cs : Array Value), off + n + l.length ≤ cs.size →
    ((l.zipIdx n).foldl (fun (cs : Array Value) (p : Value × Nat) => cs.setIfInBounds (off + p.2) p.1) cs).toList = cs.toList.take (off + n) ++ l ++ cs.toList.drop (off + n + l.length)
  | [], off, n, cs, h => by simp
  | v :: r, off, n, cs, h => by
    rw [List.zipIdx_cons, List.foldl_cons, fold_fill r off (n + 1) _ (by simp at h ⊢; omega)]
    have := list_seg_step cs.toList (off + n) v r (by simp at h ⊢; omega)
    simp only [Array.toList_setIfInBounds]
    rw [show off + (n + 1) = off + n + 1 from by omega, this]
    simp

theorem info74 : (Tryd.prog.info? 77).map (fun i => (i.zero, i.size, i.bytes)) = some (some (.agg (cellsX ⟨0, zeros⟩).toArray), 65, 72) := by kernel_rfl

theorem cellsX_len {x : Wr} (h : x.by.length = 64) : (cellsX x).length = 65 := by simp [cellsX, cellsB_len, h]

/-- A write is appended to a row of one's own. -/
theorem appW (w : World) (base : Nat) (hbase : base ≤ w.heap.size) (a : Option Addr) (p : List Wr) (cap : Nat) (h : RowW w base a p cap) (q c : Nat) (x : Wr) (hx : x.by.length = 64) (hq : w.heap[q]? = some (.cells (cellsX x).toArray 77 (0, 0))) (hlen : p.length ≤ 1000000) :
    ∃ a' cap' w', (Builtin.append_ #[64, 64] 64 #[.slice a p.length cap, .slice (some ⟨q, 0, none⟩) 1 c]).run Tryd.prog w = .ok (.slice a' (p ++ [x]).length cap') w' ∧ RowW w' base a' (p ++ [x]) cap' ∧ w.grownBy w' (Value.slice a p.length cap).ownBlock := by
  obtain ⟨i0, hi, hz0, hz1, hz2⟩ := info_parts info74
  have hX := cellsX_len hx
  obtain ⟨v', w', hr, h2, h3, h4⟩ := run_append_own (P := Tryd.prog) w base 64 64 77 i0 (.agg (cellsX ⟨0, zeros⟩).toArray) 65 72 Tryd.underlying64 hi hz0 hz1 hz2 (by simp [Value.cells, cellsX_len (x := ⟨0, zeros⟩) zeros_len]) (by decide)
    (.slice a p.length cap) p.length (cellsW p) h ⟨q, 0, none⟩ 1 c (cellsX x) (by omega) (by
      intro j u hj
      rw [addr_add, Nat.zero_add, cell_of_row w q j _ _ _ hq]
      simpa using hj) (cellsX_one x) (by unfold maxLen; omega) (by omega) hbase
  have e : cellsW (p ++ [x]) = cellsW p ++ cellsX x := by rw [cellsW_append]; simp [cellsW]
  have hf : ∃ a' cap', v' = .slice a' (p.length + 1) cap' := by
    obtain ⟨_, ⟨rfl, h0⟩ | ⟨g, c', cur, rfl, _⟩⟩ := h2
    · omega
    · exact ⟨_, _, rfl⟩
  obtain ⟨a', cap', rfl⟩ := hf
  refine ⟨a', cap', w', by rw [List.length_append]; exact hr, ?_, h3⟩
  rw [RowW, e, List.length_append]
  exact h2
end Go.Proofs.YtofmicbhheebiaaDoor
