/- Layer 17: slices.Grow of nothing, and slices.Concat. -/
import Derived.Test.YtbfamjnnlcopiaaDoorIgA
import Derived.Test.YtbfamjnnlcopiaaDoorGtI
import Derived.Lib.AppendZeros
namespace Go.Proofs.YtbfamjnnlcopiaaDoor
open Go.RowKit
set_option linter.unusedVariables false
set_option maxRecDepth 4000

theorem zeroC_B (n : Nat) : Builtin.zeroCells #[.int .u8 0] n = (cellsB (List.replicate n 0)).toArray := by
  apply Array.toList_inj.1
  rw [zeroCells_B]
set_option maxHeartbeats 1000000 in
theorem igrow_any (n : Nat) (w : World) (hn : n ≤ 1000000) :
    Calls Tryd.prog 50 #[.slice none 0 0, .int .i64 (n : Nat)] w fun e w' => ∃ a' c', e = .returned (.slice a' 0 c') ∧ OwnsB w' w.heap.size a' [] c' ∧ Below w.heap.size w w' := by
  rcases Nat.eq_zero_or_pos n with rfl | hpos
  · go_enter Tryd.func50, Tryd.ntmps50
    go_wp2
    go_ret
    exact ⟨none, 0, rfl, World.ownsRow_nil _ _ _ _, Below.refl _ _⟩
  · obtain ⟨i0, hi0, hz0, hs0, hb0⟩ := info_parts Tryd.info5
    have hG1 : n ≤ grownCap w n 0 5 := grownCap_ge w _ _ _
    have hGm := grownCap_le_maxLen w n 0 5 (by unfold maxLen; omega)
    have hrz : ∀ ty, (Builtin.append_ #[25, 3] ty #[.slice none 0 0, .int .i64 (n : Nat)]).run Tryd.prog w = .ok (.slice (some ⟨w.heap.size, 0, none⟩) n (grownCap w n 0 5)) (w.drew.alloc (.cells ((cellsB (List.replicate n 0)).toArray ++ (cellsB (List.replicate (grownCap w n 0 5 - n) 0)).toArray) 5)) := fun ty => by
      have h := Lib.run_append_nil_zeros w 25 3 ty 5 i0 _ .i64 .i64 Tryd.underlying25 Tryd.underlying3 hi0 hz0 n hpos (by rw [hs0]; omega) (by omega) (by rw [hb0]; omega)
      rw [h]
      simp only [Value.cells, zeroC_B]
    obtain ⟨G, hG⟩ : ∃ G, grownCap w n 0 5 = G := ⟨_, rfl⟩
    rw [hG] at hrz hG1 hGm
    obtain ⟨wz, hwz⟩ : ∃ wz, w.drew.alloc (.cells ((cellsB (List.replicate n 0)).toArray ++ (cellsB (List.replicate (G - n) 0)).toArray) 5) = wz := ⟨_, rfl⟩
    have BN : Hid (Below w.heap.size w wz) := by show Below _ _ _; rw [← hwz]; exact (Below.refl _ w).drew.alloc (Nat.le_refl _) _
    have RN : Hid (OwnsB wz w.heap.size (some ⟨w.heap.size, 0, none⟩) [] G) := by
      show OwnsB _ _ _ _ _
      rw [← hwz]
      refine ⟨rfl, .inr ⟨w.heap.size, G, _, rfl, Nat.le_refl _, Go.heap_alloc_new w.drew _, by show 0 ≤ G; omega, hGm, ?_, rfl⟩⟩
      simp [cellsB_len]; omega
    rw [hwz] at hrz
    have RZ : Hid (∀ ty, (Builtin.append_ #[25, 3] ty #[.slice none 0 0, .int .i64 (n : Nat)]).run Tryd.prog w = .ok (.slice (some ⟨w.heap.size, 0, none⟩) n G) wz) := hrz
    have h1 : ¬ ((n : Int) < 0) := by omega
    have h4 : (0 : Int) < (n : Int) := by omega
    have h5 : (n : Int) > 0 := by omega
    unfold maxLen at hGm
    clear hrz hG hwz hi0 hz0 hs0 hb0
    go_enter Tryd.func50, Tryd.ntmps50
    go_wp2_with (at_builtin; refine Lib.wpList_append_run _ rfl _ _ _ _ rfl _ _ rfl rfl _ _ (RZ.out _) ?_)
    all_goals (go_ret; exact ⟨_, G, rfl, RN.out, BN.out⟩)

/-- A piece: a slice of bytes. -/
structure Pc where
  a : Option Addr
  c : Nat
  l : List Int
/-- The pieces up to one, joined. -/
def sumP (ps : List Pc) (k : Nat) : List Int := (ps.take k).flatMap (·.l)
theorem sumP_succ (ps : List Pc) (k : Nat) (h : k < ps.length) : sumP ps (k + 1) = sumP ps k ++ ps[k].l := by
  unfold sumP
  rw [List.take_succ_eq_append_getElem h, List.flatMap_append]
  simp
theorem sumP_le (ps : List Pc) (k : Nat) : (sumP ps k).length ≤ (sumP ps ps.length).length := by
  have e : sumP ps ps.length = sumP ps k ++ (ps.drop k).flatMap (·.l) := by
    unfold sumP
    rw [List.take_length, ← List.flatMap_append, List.take_append_drop]
  rw [e, List.length_append]
  omega
/-- Pieces that can be read. -/
structure IsS (w : World) (g : Nat) (ps : List Pc) : Prop where
  cell : ∀ i (h : i < ps.length), w.cell? ⟨g, i, none⟩ = some (.slice ps[i].a ps[i].l.length ps[i].c)
  byte : ∀ i (h : i < ps.length), IsB w ps[i].a ps[i].l
  nil : ∀ i (h : i < ps.length), ps[i].a = none → ps[i].l = [] ∧ ps[i].c = 0
theorem IsS.keep {w w' : World} {g : Nat} {ps : List Pc} (h : IsS w g ps) (hb : Below w.heap.size w w') : IsS w' g ps :=
  ⟨fun i hi => bcell hb (h.cell i hi), fun i hi => (h.byte i hi).keep hb, h.nil⟩

set_option maxRecDepth 20000 in
set_option maxHeartbeats 2000000 in
theorem concat_any (g n k : Nat) (ps : List Pc) (w : World) (hn : n = ps.length) (h : IsS w g ps) (hl : ps.length ≤ 100) (hs : (sumP ps ps.length).length ≤ 1000000) :
    Calls Tryd.prog 29 #[.slice (some ⟨g, 0, none⟩) n k] w fun e w' => ∃ a' c', e = .returned (.slice a' (sumP ps ps.length).length c') ∧ OwnsB w' w.heap.size a' (sumP ps ps.length) c' ∧ Below w.heap.size w w' := by
  have H : Hid (IsS w g ps) := h
  have HN : Hid (n = ps.length) := hn
  have n1 : n ≤ 100 := by omega
  have SL : Hid (∀ j, (sumP ps j).length ≤ 1000000) := fun j => Nat.le_trans (sumP_le ps j) hs
  clear h hn hl hs
  go_enter Tryd.func29, Tryd.ntmps29
  go_wp2
  go_loopw [3, 11] (fun sv iv wr => ∃ (j z : Nat), j ≤ n ∧ iv = .int .i64 (j : Nat) ∧ sv = .int .i64 (z : Nat) ∧ z = (sumP ps j).length ∧ w = wr) (fun _ iv _ => n - (intOf iv).toNat)
  case atStart => exact ⟨0, 0, Nat.zero_le _, rfl, rfl, rfl, rfl⟩
  case round =>
    obtain ⟨j, z, hj, rfl, rfl, hz, rfl⟩ := hrel
    have z1 : z ≤ 1000000 := by rw [hz]; exact SL.out j
    have HZ : Hid (z = (sumP ps j).length) := hz
    clear hz
    by_cases hlt : j < n
    · have hjp : j < ps.length := by have := HN.out; omega
      have hcell0 := H.out.cell j hjp
      have E := sumP_succ ps j hjp
      obtain ⟨y, hy⟩ : ∃ y, ps[j] = y := ⟨_, rfl⟩
      rw [hy] at hcell0 E
      obtain ⟨ya, yc, yl⟩ := y
      have hcell : w.cell? ⟨g, j, none⟩ = some (.slice ya yl.length yc) := hcell0
      obtain ⟨yn, hyn⟩ : ∃ yn, yl.length = yn := ⟨_, rfl⟩
      rw [hyn] at hcell
      have E2 : Hid (z + yn = (sumP ps (j + 1)).length) := by show _ = _; rw [E, List.length_append, ← HZ.out]; show z + yn = z + yl.length; rw [hyn]
      have z2 : z + yn ≤ 1000000 := by rw [E2.out]; exact SL.out _
      clear E hy hyn hcell0
      go_wp2
      go_roundw
      case rel => exact ⟨j + 1, z + yn, by omega, by go_num, by go_num, E2.out, trivial⟩
      case measure => simp [intOf]; omega
    · obtain rfl : j = n := by omega
      go_wp2_with fail
      refine (igrow_any z _ z1).mono ?_
      rintro e w1 ⟨a1, c1, rfl, o1, b1⟩
      have O1 : Hid (OwnsB w1 w.heap.size a1 [] c1) := o1
      have B1 : Hid (Below w.heap.size w w1) := b1
      clear o1 b1
      go_wp2
      go_loopw [6, 27] (fun sv iv wr => ∃ (i : Nat) (a' : Option Addr) (c' : Nat), i ≤ j ∧ iv = .int .i64 (i : Nat) ∧ sv = .slice a' (sumP ps i).length c' ∧ OwnsB wr w.heap.size a' (sumP ps i) c' ∧ Below w.heap.size w wr) (fun _ iv _ => j - (intOf iv).toNat)
      case atStart => exact ⟨0, a1, c1, Nat.zero_le _, rfl, rfl, O1.out, B1.out⟩
      case round =>
        clear O1 B1
        obtain ⟨i, a2, c2, hi, rfl, rfl, o2, b2⟩ := hrel
        rename World => wr
        have O2 : Hid (OwnsB wr w.heap.size a2 (sumP ps i) c2) := o2
        have B2 : Hid (Below w.heap.size w wr) := b2
        have zz := b2.size
        clear o2 b2
        have s0 := SL.out i
        by_cases hlt : i < j
        · have hjp : i < ps.length := by have := HN.out; omega
          have hcell0 := (H.out.keep B2.out).cell i hjp
          have hby := (H.out.keep B2.out).byte i hjp
          have hnl := H.out.nil i hjp
          have E := sumP_succ ps i hjp
          obtain ⟨y, hy⟩ : ∃ y, ps[i] = y := ⟨_, rfl⟩
          rw [hy] at hcell0 E hby hnl
          obtain ⟨ya, yc, yl⟩ := y
          have hcell : wr.cell? ⟨g, i, none⟩ = some (.slice ya yl.length yc) := hcell0
          have HB : Hid (IsB wr ya yl) := hby
          have HNL : Hid (ya = none → yl = [] ∧ yc = 0) := hnl
          have EH : Hid (sumP ps (i + 1) = sumP ps i ++ yl) := E
          have s1 := SL.out (i + 1)
          rw [E, List.length_append] at s1
          have s1 : (sumP ps i).length + yl.length ≤ 1000000 := s1
          clear E hy hby hnl hjp hcell0
          go_wp2_with (at_builtin; refine rwpList_app rfl _ _ rfl w.heap.size zz a2 (sumP ps i) c2 rfl O2.out ya yl yc rfl HB.out HNL.out (by omega) ?_; rw [← EH.out]; intro a3 c3 w3 o3 b3; have O3 : Hid (OwnsB w3 w.heap.size a3 (sumP ps (i + 1)) c3) := o3; have B3 : Hid (Below w.heap.size w w3) := B2.out.trans b3; clear o3 b3)
          go_roundw
          case rel => exact ⟨i + 1, a3, c3, by omega, by go_num, rfl, O3.out, B3.out⟩
          case measure => simp [intOf]; omega
        · obtain rfl : i = j := by omega
          go_wp2
          go_ret
          have HN' := HN.out
          subst HN'
          exact ⟨a2, c2, rfl, O2.out, B2.out⟩
end Go.Proofs.YtbfamjnnlcopiaaDoor
