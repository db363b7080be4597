/- What Read answers. -/
import Derived.Test.YtddkmmkhlfjhiaaDkD
namespace Go.Proofs.Ytddkmmkhlfjhiaa
open Go.RowKit Go.Maps
set_option linter.unusedVariables false

theorem read_closed (base b m : Nat) (d : Dk) (i : Int) (w : World) (h : IsD w base b m d) (hc : closedE d i ≠ 0) :
    Calls Try.prog 14 #[.pointer (some ⟨b, 0, none⟩), .int .i64 i] w fun e w' => e = .returned (.tuple #[.slice none 0 0, .int .i64 (closedE d i)]) ∧ w = w' := by
  have H : Hid (IsD w base b m d) := h
  obtain ⟨E, hE⟩ : ∃ E, closedE d i = E := ⟨_, rfl⟩
  have EE : Hid (closedE d i = E) := hE
  rw [hE] at hc ⊢
  clear h hE
  go_enter Try.func14, Try.ntmps14
  go_wp2_with (go_at_call 35; refine (closed_any base b m d i _ H.out).mono ?_; rw [EE.out]; rintro e w' ⟨rfl, rfl⟩)
  go_ret2
  exact ⟨rfl, rfl⟩

theorem read_nil (i : Int) (w : World) :
    Calls Try.prog 14 #[.pointer none, .int .i64 i] w fun e w' => e = .returned (.tuple #[.slice none 0 0, .int .i64 1]) ∧ w = w' := by
  go_enter Try.func14, Try.ntmps14
  go_wp2_with (go_at_call 35; refine (closed_nil i _).mono ?_; rintro e w' ⟨rfl, rfl⟩)
  go_ret2
  exact ⟨rfl, rfl⟩

set_option maxHeartbeats 2000000 in
theorem read_open (base b m : Nat) (d : Dk) (i : Int) (w : World) (h : IsD w base b m d) (hc : closedE d i = 0) :
    Calls Try.prog 14 #[.pointer (some ⟨b, 0, none⟩), .int .i64 i] w fun e w' => e = .returned (.tuple #[.slice (some ⟨w.heap.size, 0, none⟩) 64 64, .int .i64 0]) ∧ RowB w' w.heap.size 71 (readL d i) ∧ Below w.heap.size w w' := by
  have H : Hid (IsD w base b m d) := h
  obtain ⟨hd, hi0, hi1⟩ := closedE_zero.1 hc
  have EE : Hid (closedE d i = 0) := hc
  obtain ⟨k, rfl⟩ : ∃ k : Nat, i = k := ⟨i.toNat, by omega⟩
  have hR : readL d k = lastB d.pend k (d.sure k) := by rw [readL, if_pos hc]; simp
  have few := h.ok.few
  have hsec := (h.ok.sec k (by omega)).1
  have hwr := h.ok.wr
  obtain ⟨bs, bn, ap, cp, ns, nn, f, g, h, _, _, _⟩ := h
  have h1 : w.cell? ⟨b, 1, none⟩ = some (.map (some bs)) := h.cell 1
  have hlook := h.sure.look (i := (k : Int)) (by omega)
  rw [h.fit k (by omega)] at hlook
  have hbw : b < w.heap.size := (Array.getElem?_eq_some_iff.1 h.box).1
  have HA : Hid (DiskAt w base b bs bn ap cp ns nn f g d) := h
  obtain ⟨S, hS⟩ : ∃ S, d.sure k = S := ⟨_, rfl⟩
  rw [hS] at hlook hsec hR
  have HS : Hid (S.length = 64) := hsec
  rcases h.new k with ⟨hg, hl⟩ | ⟨j, hj, hg, hl⟩
  · rw [hl] at hR
    have ER : Hid (readL d k = S) := hR
    have HG : Hid (g k = none) := hg
    clear h hc hd hR hl hg hS hwr hsec
    go_enter Try.func14, Try.ntmps14
    go_wp2_with (first
      | (go_at_call 35; refine (closed_any base b m d k _ H.out).mono ?_; rw [EE.out]; rintro e w' ⟨rfl, rfl⟩)
      | (refine wpList_allocB rfl rfl ?_; intro w1 r1 b1 s1; have B1 : Hid (Below w.heap.size w w1) := b1; have R1 : Hid (RowB w1 w.heap.size 71 zeros) := r1; clear r1 b1 s1)
      | (refine wpList_storeB rfl _ _ rfl w.heap.size S rfl rfl 71 zeros R1.out zeros_len HS.out ?_; intro w2 r2 o2; have B2 : Hid (Below w.heap.size w w2) := B1.out.trans (o2.below (Nat.le_refl _)); have R2 : Hid (RowB w2 w.heap.size 71 S) := r2; have A2 := HA.out.same (same_below B2.out); have h3 : w2.cell? ⟨b, 3, none⟩ = some (.map (some bn)) := A2.cell 3; obtain ⟨c, hl2, _⟩ := A2.newest.look (i := (k : Int)) (by omega); rw [HG.out] at hl2; clear r2 o2 A2; simp only [Act.put]))
    go_ret2
    rw [ER.out]
    exact ⟨rfl, R2.out, B2.out⟩
  · rw [hl] at hR
    have ER : Hid (readL d k = d.pend[j].by) := hR
    have HG : Hid (g k = some j) := hg
    obtain ⟨gp, rfl, _, hcp, _, hrg⟩ := h.row.some hj (fun x hx => (hwr x hx).2.1)
    have hr2 := range_tail hrg
    obtain ⟨Y, hY⟩ : ∃ Y, d.pend[j].by = Y := ⟨_, rfl⟩
    have hyl := (hwr _ (List.getElem_mem hj)).2.1
    rw [hY] at ER hr2 hyl
    have HY : Hid (Y.length = 64) := hyl
    have HR2 : Hid (w.rangeAt gp (j * 65 + 1) (cellsB Y)) := hr2
    have hgp : gp < w.heap.size := by
      have := hr2 0 (.int .u8 (Y.getD 0 0)) (cellsB_at Y 0 (by omega))
      exact block_lt_of_cell this
    clear h hc hd hR hl hg hS hwr hsec hrg hr2 hY hyl
    go_enter Try.func14, Try.ntmps14
    go_wp2_with (first
      | (go_at_call 35; refine (closed_any base b m d k _ H.out).mono ?_; rw [EE.out]; rintro e w' ⟨rfl, rfl⟩)
      | (refine wpList_allocB rfl rfl ?_; intro w1 r1 b1 s1; have B1 : Hid (Below w.heap.size w w1) := b1; have R1 : Hid (RowB w1 w.heap.size 71 zeros) := r1; clear r1 b1 s1)
      | (refine wpList_load_mid rfl 71 _ rfl gp (j * 65 + 1) rfl (cellsB Y) _ HR3.out Try.underlying71 rfl (by rw [size64]; simp [cellsB_len, HY.out]) ?_)
      | (have _ := R2; refine wpList_storeB rfl _ _ rfl w.heap.size Y rfl rfl 71 S R2.out HS.out HY.out ?_; intro w3 r3 o3; have B3 : Hid (Below w.heap.size w w3) := B2.out.trans (o3.below (Nat.le_refl _)); have R3 : Hid (RowB w3 w.heap.size 71 Y) := r3; clear r3 o3; simp only [Act.put])
      | (refine wpList_storeB rfl _ _ rfl w.heap.size S rfl rfl 71 zeros R1.out zeros_len HS.out ?_; intro w2 r2 o2; have B2 : Hid (Below w.heap.size w w2) := B1.out.trans (o2.below (Nat.le_refl _)); have R2 : Hid (RowB w2 w.heap.size 71 S) := r2; have A2 := HA.out.same (same_below B2.out); have h3 : w2.cell? ⟨b, 3, none⟩ = some (.map (some bn)) := A2.cell 3; have h2 : w2.cell? ⟨b, 2, none⟩ = some (.slice (some ⟨gp, 0, none⟩) d.pend.length cp) := A2.cell 2; obtain ⟨c, hl2, hcj⟩ := A2.newest.look (i := (k : Int)) (by omega); obtain rfl := hcj j HG.out; rw [HG.out] at hl2; have HR3 : Hid (w2.rangeAt gp (j * 65 + 1) (cellsB Y)) := (fun q v hv => (B2.out.cell (p := ⟨gp, j * 65 + 1 + q, none⟩) hgp).trans (HR2.out q v hv)); clear r2 o2 A2 hcj; simp only [Act.put]))
    go_ret2
    rw [ER.out]
    exact ⟨rfl, R3.out, B3.out⟩
end Go.Proofs.Ytddkmmkhlfjhiaa
