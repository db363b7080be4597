/- What New does. -/
import Derived.Test.YtgmljgogmbaioaaGreatDoorKaRS
namespace Go.Proofs.YtgmljgogmbaioaaGreatDoor
open Go.RowKit
set_option linter.unusedVariables false
set_option maxRecDepth 4000

theorem Tryz.info99 : (Tryz.prog.info? 99).map (fun i => (i.zero, i.size, i.bytes)) = some (some (.agg #[.slice none 0 0, .slice none 0 0, .slice none 0 0, .slice none 0 0, .slice none 0 0, .slice none 0 0, .slice none 0 0]), 7, 168) := by kernel_rfl
theorem made_S (n : Nat) : madeCells #[.slice none 0 0, .slice none 0 0, .slice none 0 0, .slice none 0 0, .slice none 0 0, .slice none 0 0, .slice none 0 0] (n * 7) = (List.replicate (n * 7) (Value.slice none 0 0)).toArray := by
  apply Array.toList_inj.1
  unfold madeCells
  apply List.ext_getElem
  · simp
  · intro i h1 h2
    simp
    have : i % 7 < 7 := Nat.mod_lt _ (by omega)
    obtain h | h | h | h | h | h | h : i % 7 = 0 ∨ i % 7 = 1 ∨ i % 7 = 2 ∨ i % 7 = 3 ∨ i % 7 = 4 ∨ i % 7 = 5 ∨ i % 7 = 6 := by omega
    all_goals rw [h]; rfl
theorem make_S (w : World) (n : Nat) (hn : n ≤ 8) : (Instr.makeSlice 86 (.int .i64 (n : Nat)) (.int .i64 (n : Nat))).run Tryz.prog w = .ok (.slice (some ⟨w.heap.size, 0, none⟩) n n) (w.alloc (.cells (List.replicate (n * 7) (Value.slice none 0 0)).toArray 99)) := by
  obtain ⟨i0, hi0, hz0, hs0, hb0⟩ := info_parts Tryz.info99
  have h := run_make (P := Tryz.prog) w 86 99 i0 _ Tryz.underlying86 hi0 hz0 .i64 .i64 (n : Int) (n : Int) (by omega) (Int.le_refl _) (by rw [hb0]; omega) (by omega)
  rw [h, hs0]
  simp only [Int.toNat_natCast, Value.cells, made_S]
/-- A cache that was just made. -/
def Born (w : World) (cb P W : Nat) (m : List Sg) (w' : World) : Prop := (∃ L, Ca w' L cb P W m ∧ ∀ k, k < w.heap.size → L k = 0) ∧ Below w.heap.size w w'
set_option maxHeartbeats 1000000 in
theorem kfrom_nil (P W : Nat) (w : World) (hT : Tabs w) (hp : 1 ≤ P ∧ P ≤ 4096) (hw : 1 ≤ W ∧ W ≤ 8) :
    Calls Tryz.prog 17 #[.int .i64 (P : Nat), .int .i64 (W : Nat), .slice none 0 0] w fun e w' => ∃ cb, e = .returned (.tuple #[.pointer (some ⟨cb, 0, none⟩), .int .i64 0]) ∧ Born w cb P W [] w' := by
  have HT : Hid (Tabs w) := hT
  have h1 : ¬ ((P : Int) < 1) := by omega
  have h2 : ¬ ((4096 : Int) < (P : Int)) := by omega
  have h3 : ¬ ((W : Int) < 1) := by omega
  have h4 : ¬ ((8 : Int) < (W : Int)) := by omega
  have MK : ∀ w : World, (Instr.makeSlice 86 (.int .i64 (W : Nat)) (.int .i64 (W : Nat))).run Tryz.prog w = .ok (.slice (some ⟨w.heap.size, 0, none⟩) W W) (w.alloc (.cells (List.replicate (W * 7) (Value.slice none 0 0)).toArray 99)) := fun w => make_S w _ (by omega)
  clear hT
  go_enter Tryz.func17, Tryz.ntmps17
  go_wp2_with fail
  refine (new_any P _ (by omega)).mono ?_
  rintro e w1 ⟨rfl, i1, b1⟩
  have I1 : Hid (IsR w1 (fun k => w.heap.size ≤ k) w.heap.size P (fun _ => false)) := i1
  have B1 : Hid (Below w.heap.size w w1) := b1
  obtain ⟨fb, hfb⟩ : ∃ fb, w.heap.size = fb := ⟨_, rfl⟩
  have EFB : Hid (w.heap.size = fb) := hfb
  rw [hfb]
  clear i1 b1 hfb
  obtain ⟨wz, hwz⟩ : ∃ wz, (w1.alloc (.cells (List.replicate (W * 7) (Value.slice none 0 0)).toArray 99)).alloc (.cells #[.pointer (some ⟨fb, 0, none⟩), .slice none 0 0, .slice (some ⟨w1.heap.size, 0, none⟩) W W] 89) = wz := ⟨_, rfl⟩
  have HWZ : Hid ((w1.alloc (.cells (List.replicate (W * 7) (Value.slice none 0 0)).toArray 99)).alloc (.cells #[.pointer (some ⟨fb, 0, none⟩), .slice none 0 0, .slice (some ⟨w1.heap.size, 0, none⟩) W W] 89) = wz) := hwz
  have BZ : Hid (Below w1.heap.size w1 wz) := by show Below _ _ _; rw [← hwz]; exact ((Below.refl _ w1).alloc (Nat.le_refl _) _).alloc (by simp) _
  have BORN : Hid (Born w (w1.heap.size + 1) P W [] wz) := by
    have hcb : wz.heap[w1.heap.size + 1]? = some (.cells #[.pointer (some ⟨fb, 0, none⟩), .slice none 0 0, .slice (some ⟨w1.heap.size, 0, none⟩) W W] 89 (0, 0)) := by
      rw [← hwz]
      have := Go.heap_alloc_new (w1.alloc (.cells (List.replicate (W * 7) (Value.slice none 0 0)).toArray 99)) (.cells #[.pointer (some ⟨fb, 0, none⟩), .slice none 0 0, .slice (some ⟨w1.heap.size, 0, none⟩) W W] 89)
      rw [World.size_alloc] at this
      exact this
    have hhb : wz.heap[w1.heap.size]? = some (.cells (List.replicate (W * 7) (Value.slice none 0 0)).toArray 99 (0, 0)) := by
      rw [← hwz, Go.heap_alloc_old _ _ (by simp)]; exact Go.heap_alloc_new w1 _
    have hs1 := B1.out.size
    have ht0 := HT.out.1.1
    have ht1 := HT.out.2.1
    obtain ⟨Lz, hLz⟩ : ∃ Lz : Nat → Nat, Lz = fun k => if k < w.heap.size then 0 else if k < w1.heap.size then 2 else if k = w1.heap.size then 4 else if k = w1.heap.size + 1 then 1 else 0 := ⟨_, rfl⟩
    have z0 : ∀ k, k < w.heap.size → Lz k = 0 := fun k hk => by rw [hLz]; simp [hk]
    refine ⟨⟨Lz, ⟨fb, w1.heap.size, none, 0, [], List.replicate (W * 7) (.slice none 0 0), ?_⟩, z0⟩, B1.out.trans (BZ.out.mono hs1)⟩
    refine ⟨(HT.out.keep B1.out).keep BZ.out, z0 0 (by omega), z0 1 (by omega), hcb, ?_, ?_, VAt.nil _ _ _, rfl, fun i hi => by simp at hi, hhb, ?_, by simp, fun v c hv hc => ⟨none, 0, ?_, VAt.nil _ _ _⟩⟩
    · rw [hLz]; simp only; rw [if_neg (by omega), if_neg (by omega), if_neg (by omega), if_pos trivial]
    · rw [show pgF [] = fun _ => false from rfl, ← EFB.out]
      refine (I1.out.mono (fun i hi e => ?_)).keep BZ.out
      rw [hLz]
      simp only
      rw [if_neg (by omega), if_pos hi]
    · rw [hLz]; simp only; rw [if_neg (by omega), if_neg (by omega), if_pos trivial]
    · show _ = some (Value.slice none 0 0)
      have : v * 7 + c < W * 7 := by have := Nat.mul_le_mul_right 7 hv; omega
      rw [List.getElem?_replicate, if_pos this]
  clear hwz
  go_wp2_with (rw [HWZ.out])
  go_loopw [39] (fun iv wr => iv = .int .i64 0 ∧ wz = wr) (fun _ _ => 0)
  case atStart => exact ⟨rfl, HWZ.out.symm⟩
  case round =>
    obtain ⟨rfl, rfl⟩ := hrel
    go_wp2
    go_ret2
    exact ⟨w1.heap.size + 1, rfl, BORN.out⟩
theorem knew_any (P W : Nat) (w : World) (hT : Tabs w) (hp : 1 ≤ P ∧ P ≤ 4096) (hw : 1 ≤ W ∧ W ≤ 8) :
    Calls Tryz.prog 10 #[.int .i64 (P : Nat), .int .i64 (W : Nat)] w fun e w' => ∃ cb, e = .returned (.tuple #[.pointer (some ⟨cb, 0, none⟩), .int .i64 0]) ∧ Born w cb P W [] w' := by
  have HT : Hid (Tabs w) := hT
  clear hT
  go_enter Tryz.func10, Tryz.ntmps10
  go_wp2_with fail
  refine (kfrom_nil P W _ HT.out hp hw).mono ?_
  rintro e w1 ⟨cb, rfl, hB⟩
  have HB : Hid (Born w cb P W [] w1) := hB
  clear hB
  go_wp2
  go_ret2
  exact ⟨cb, rfl, HB.out⟩
end Go.Proofs.YtgmljgogmbaioaaGreatDoor

/- The document's example. -/
namespace Go.Proofs.YtgmljgogmbaioaaGreatDoor
open Go.RowKit
set_option linter.unusedVariables false
set_option maxRecDepth 4000

def exA : List Sg := (takeM 4 2 0 20 []).2.2
def exB : List Sg := (takeM 4 2 1 20 exA).2.2
def exC : List Sg := (takeM 4 2 0 300 exB).2.2
def exD : List Sg := (giveM 2 0 96 exC).2
theorem exA_is : takeM 4 2 0 20 [] = (0, 0, exA) := by
  have h1 : (takeM 4 2 0 20 []).1 = 0 := by decide
  have h2 : (takeM 4 2 0 20 []).2.1 = 0 := by decide
  exact Prod.ext h1 (Prod.ext h2 rfl)
theorem exB_is : takeM 4 2 1 20 exA = (96, 0, exB) := by
  have h1 : (takeM 4 2 1 20 exA).1 = 96 := by decide
  have h2 : (takeM 4 2 1 20 exA).2.1 = 0 := by decide
  exact Prod.ext h1 (Prod.ext h2 rfl)
theorem exC_is : takeM 4 2 0 300 exB = (256, 0, exC) := by
  have h1 : (takeM 4 2 0 300 exB).1 = 256 := by decide
  have h2 : (takeM 4 2 0 300 exB).2.1 = 0 := by decide
  exact Prod.ext h1 (Prod.ext h2 rfl)
theorem exC_no : takeM 4 2 0 300 exC = (0, 13, exC) := by
  have h1 : ofI 300 = 7 := by decide
  have h2 : layP 4 (pagesN 300) 0 exC = none := by decide
  unfold takeM
  rw [if_neg (by rw [h1]; omega), if_pos h1, h2]
theorem exD_is : giveM 2 0 96 exC = (0, exD) := by
  have h1 : (giveM 2 0 96 exC).1 = 0 := by decide
  exact Prod.ext h1 rfl
theorem exA_ok : Okc 4 2 exA := ⟨by omega, by omega, by omega, by omega, (take_ok (show Fit 2 4 0 [] from Nat.zero_le _) exA_is).fit⟩
theorem exB_ok : Okc 4 2 exB := ⟨by omega, by omega, by omega, by omega, (take_ok exA_ok.fit exB_is).fit⟩
theorem exC_ok : Okc 4 2 exC := ⟨by omega, by omega, by omega, by omega, (take_ok exB_ok.fit exC_is).fit⟩
theorem exD_ok : Okc 4 2 exD := ⟨by omega, by omega, by omega, by omega, (give_ok exC_ok.fit exD_is).2.fit⟩
theorem exD_kept : (keptI 2 0 1 exD).length = 4 := by decide
set_option maxHeartbeats 1000000 in
theorem kalive_any (w : World) (hT : Tabs w) : Calls Tryz.prog 9 #[] w fun e w' => e = .returned (.bool true) ∧ Below w.heap.size w w' := by
  have HT : Hid (Tabs w) := hT
  clear hT
  go_enter Tryz.func9, Tryz.ntmps9
  go_wp2_with fail
  refine (knew_any 4 2 _ HT.out (by omega) (by omega)).mono ?_
  rintro e w1 ⟨cb, rfl, ⟨L1, hC1, hL1⟩, b1⟩
  have C1 : Hid (Ca w1 L1 cb 4 2 []) := hC1
  have Z1 : Hid (∀ k, k < w.heap.size → L1 k = 0) := hL1
  have B1 : Hid (Below w.heap.size w w1) := b1
  clear hC1 hL1 b1
  go_wp2_with fail
  refine (ktake_any L1 cb 4 2 [] 0 20 _ C1.out ⟨by omega, by omega, by omega, by omega, show Fit 2 4 0 [] from Nat.zero_le _⟩ (ofI_range _) (fun _ => by omega)).mono ?_
  rw [exA_is]
  rintro e w2 ⟨rfl, L2, hC2, hM2⟩
  have C2 : Hid (Ca w2 L2 cb 4 2 exA) := hC2
  have M2 : Hid (Mv L1 w1 L2 w2) := hM2
  clear hC2 hM2
  go_wp2_with fail
  refine (ktake_any L2 cb 4 2 exA 1 20 _ C2.out exA_ok (ofI_range _) (fun _ => by omega)).mono ?_
  rw [exB_is]
  rintro e w3 ⟨rfl, L3, hC3, hM3⟩
  have C3 : Hid (Ca w3 L3 cb 4 2 exB) := hC3
  have M3 : Hid (Mv L1 w1 L3 w3) := M2.out.trans hM3
  clear hC3 hM3
  go_wp2_with fail
  refine (ktake_any L3 cb 4 2 exB 0 300 _ C3.out exB_ok (ofI_range _) (fun _ => by omega)).mono ?_
  rw [exC_is]
  rintro e w4 ⟨rfl, L4, hC4, hM4⟩
  have C4 : Hid (Ca w4 L4 cb 4 2 exC) := hC4
  have M4 : Hid (Mv L1 w1 L4 w4) := M3.out.trans hM4
  clear hC4 hM4
  go_wp2_with fail
  refine (ktake_any L4 cb 4 2 exC 0 300 _ C4.out exC_ok (ofI_range _) (fun _ => by omega)).mono ?_
  rw [exC_no]
  rintro e w5 ⟨rfl, L5, hC5, hM5⟩
  have C5 : Hid (Ca w5 L5 cb 4 2 exC) := hC5
  have M5 : Hid (Mv L1 w1 L5 w5) := M4.out.trans hM5
  clear hC5 hM5
  go_wp2_with fail
  refine (kgive_any L5 cb 4 2 exC 0 96 _ C5.out exC_ok (by omega)).mono ?_
  rw [exD_is]
  rintro e w6 ⟨rfl, L6, hC6, hM6⟩
  have C6 : Hid (Ca w6 L6 cb 4 2 exD) := hC6
  have M6 : Hid (Mv L1 w1 L6 w6) := M5.out.trans hM6
  clear hC6 hM6
  go_wp2_with fail
  refine (kkept_any L6 cb 4 2 exD 0 1 _ C6.out exD_ok _ rfl).mono ?_
  rw [exD_kept]
  rintro e w7 ⟨a7, c7, rfl, _, b7⟩
  have BF : Hid (Below w.heap.size w w7) := by
    have hs := M6.out.tu.size
    have t6 : Below w.heap.size w1 w6 := M6.out.tu.below (fun i hi => by
      rcases Nat.lt_or_ge i w.heap.size with e | e
      · exact absurd (Z1.out i e) hi
      · exact e) B1.out.size
    exact (B1.out.trans t6).trans (b7.mono (Nat.le_trans B1.out.size hs))
  clear b7
  go_wp2
  go_ret
  exact ⟨rfl, BF.out⟩
end Go.Proofs.YtgmljgogmbaioaaGreatDoor

/- The calls of a cache that isn't there; which pages and workers are refused; the walk of CacheNil. -/
namespace Go.Proofs.YtgmljgogmbaioaaGreatDoor
open Go.RowKit
set_option linter.unusedVariables false
set_option maxRecDepth 4000

theorem ktake_nil (v n : Int) (w : World) (hT : Tabs w) : Calls Tryz.prog 28 #[.pointer none, .int .i64 v, .int .i64 n] w fun e w' => e = .returned (.tuple #[.int .i64 0, .int .i64 1]) ∧ w = w' := by
  have HT : Hid (Tabs w) := hT
  clear hT
  go_enter Tryz.func28, Tryz.ntmps28
  go_wp2_with (go_at_call 54; refine (cof_any n _ HT.out.1).mono ?_; rintro e w' ⟨rfl, rfl⟩)
  go_ret2
  exact ⟨rfl, rfl⟩
theorem kgive_nil (v n : Int) (w : World) : Calls Tryz.prog 26 #[.pointer none, .int .i64 v, .int .i64 n] w fun e w' => e = .returned (.int .i64 1) ∧ w = w' := by
  go_enter Tryz.func26, Tryz.ntmps26
  go_wp2
  go_ret
  exact ⟨rfl, rfl⟩
theorem kflush_nil (v : Int) (w : World) : Calls Tryz.prog 36 #[.pointer none, .int .i64 v] w fun e w' => e = .returned (.int .i64 1) ∧ w = w' := by
  go_enter Tryz.func36, Tryz.ntmps36
  go_wp2
  go_ret
  exact ⟨rfl, rfl⟩
theorem kscav_nil (w : World) : Calls Tryz.prog 38 #[.pointer none] w fun e w' => e = .returned (.int .i64 0) ∧ Below w.heap.size w w' := by
  have B : Hid (Below w.heap.size w (w.alloc (.cells #[.pointer none] 26))) := (Below.refl _ w).alloc (Nat.le_refl _) _
  go_enter Tryz.func38, Tryz.ntmps38
  go_wp2
  go_ret
  exact ⟨rfl, B.out⟩
theorem kspans_nil (w : World) : Calls Tryz.prog 20 #[.pointer none] w fun e w' => e = .returned (.slice none 0 0) ∧ w = w' := by
  go_enter Tryz.func20, Tryz.ntmps20
  go_wp2
  go_ret
  exact ⟨rfl, rfl⟩
theorem kkept_nil (v c : Int) (w : World) : Calls Tryz.prog 25 #[.pointer none, .int .i64 v, .int .i64 c] w fun e w' => e = .returned (.slice none 0 0) ∧ w = w' := by
  go_enter Tryz.func25, Tryz.ntmps25
  go_wp2
  go_ret
  exact ⟨rfl, rfl⟩
theorem kfree_nil (w : World) : Calls Tryz.prog 24 #[.pointer none] w fun e w' => e = .returned (.slice none 0 0) ∧ w = w' := by
  go_enter Tryz.func24, Tryz.ntmps24
  go_wp2
  go_ret
  exact ⟨rfl, rfl⟩
theorem klive_nil (x : Int) (w : World) : Calls Tryz.prog 21 #[.pointer none, .int .i64 x] w fun e w' => e = .returned (.bool false) ∧ w = w' := by
  go_enter Tryz.func21, Tryz.ntmps21
  go_wp2
  go_ret
  exact ⟨rfl, rfl⟩
/-- Spans of a cache without any. -/
theorem kspans_none (L : Nat → Nat) (cb P W : Nat) (w : World) (h : Ca w L cb P W []) : Calls Tryz.prog 20 #[.pointer (some ⟨cb, 0, none⟩)] w fun e w' => e = .returned (.slice none 0 0) ∧ w = w' := by
  obtain ⟨fb, hb, a, cap, ps, sh, hC⟩ := h
  have c1 : w.cell? ⟨cb, 1, none⟩ = some (.slice a 0 cap) := hC.cell1
  clear hC
  go_enter Tryz.func20, Tryz.ntmps20
  go_wp2
  go_loopw [3, 13] (fun av iv wr => av = .slice none 0 0 ∧ iv = .int .i64 0 ∧ w = wr) (fun _ _ _ => 0)
  case atStart => exact ⟨rfl, rfl, rfl⟩
  case round =>
    obtain ⟨rfl, rfl, rfl⟩ := hrel
    go_wp2
    go_ret
    exact ⟨rfl, rfl⟩
theorem kfrom_bad (p v : Int) (a : Option Addr) (n c : Nat) (w : World) (h : p < 1 ∨ 4096 < p ∨ v < 1 ∨ 8 < v) : Calls Tryz.prog 17 #[.int .i64 p, .int .i64 v, .slice a n c] w fun e w' => e = .returned (.tuple #[.pointer none, .int .i64 2]) ∧ w = w' := by
  by_cases h1 : p < 1
  · go_enter Tryz.func17, Tryz.ntmps17
    go_wp2
    go_ret2
    exact ⟨rfl, rfl⟩
  · by_cases h2 : 4096 < p
    · go_enter Tryz.func17, Tryz.ntmps17
      go_wp2
      go_ret2
      exact ⟨rfl, rfl⟩
    · by_cases h3 : v < 1
      · go_enter Tryz.func17, Tryz.ntmps17
        go_wp2
        go_ret2
        exact ⟨rfl, rfl⟩
      · have h4 : 8 < v := by omega
        go_enter Tryz.func17, Tryz.ntmps17
        go_wp2
        go_ret2
        exact ⟨rfl, rfl⟩
theorem knew_bad (p v : Int) (w : World) (h : p < 1 ∨ 4096 < p ∨ v < 1 ∨ 8 < v) : Calls Tryz.prog 10 #[.int .i64 p, .int .i64 v] w fun e w' => e = .returned (.tuple #[.pointer none, .int .i64 2]) ∧ w = w' := by
  go_enter Tryz.func10, Tryz.ntmps10
  go_wp2_with (go_at_call 17; refine (kfrom_bad p v none 0 0 _ h).mono ?_; rintro e w' ⟨rfl, rfl⟩)
  go_ret2
  exact ⟨rfl, rfl⟩
end Go.Proofs.YtgmljgogmbaioaaGreatDoor
