/- Layer 15: New of a heap. -/
import Derived.Test.YtgdjlopnhecmjaaGreatDoorGzBI
namespace Go.Proofs.YtgdjlopnhecmjaaGreatDoor
open Go.RowKit
set_option linter.unusedVariables false
set_option maxRecDepth 4000

theorem Below.drew15 (w : World) : Below w.heap.size w w.drew := ⟨rfl, rfl, rfl, Nat.le_refl _, fun _ _ => rfl⟩
/-- So many workers and handles may be. -/
def mayE (x y : Int) : Prop := 1 ≤ x ∧ x ≤ 8 ∧ 1 ≤ y ∧ y ≤ 4096
instance (x y : Int) : Decidable (mayE x y) := by unfold mayE; infer_instance
theorem emay_any (x y : Int) (r : Bool) (hr : decide (mayE x y) = r) (w : World) : Calls Tryz.prog 79 #[.int .i64 x, .int .i64 y] w fun e w' => e = .returned (.bool r) ∧ w = w' := by
  subst hr
  by_cases a1 : 1 ≤ x
  · by_cases a2 : x ≤ 8
    · by_cases a3 : 1 ≤ y
      · by_cases a4 : y ≤ 4096
        · rw [decide_eq_true (p := mayE x y) ⟨a1, a2, a3, a4⟩]
          go_enter Tryz.func79, Tryz.ntmps79
          go_wp2
          go_ret
          exact ⟨rfl, rfl⟩
        · rw [decide_eq_false (p := mayE x y) (by unfold mayE; omega)]
          go_enter Tryz.func79, Tryz.ntmps79
          go_wp2
          go_ret
          exact ⟨rfl, rfl⟩
      · rw [decide_eq_false (p := mayE x y) (by unfold mayE; omega)]
        go_enter Tryz.func79, Tryz.ntmps79
        go_wp2
        go_ret
        exact ⟨rfl, rfl⟩
    · rw [decide_eq_false (p := mayE x y) (by unfold mayE; omega)]
      go_enter Tryz.func79, Tryz.ntmps79
      go_wp2
      go_ret
      exact ⟨rfl, rfl⟩
  · rw [decide_eq_false (p := mayE x y) (by unfold mayE; omega)]
    go_enter Tryz.func79, Tryz.ntmps79
    go_wp2
    go_ret
    exact ⟨rfl, rfl⟩
theorem cells15c {w : World} {b : Nat} {x0 x1 x2 x3 x4 : Value} {t : TypeId} (h : w.heap[b]? = some (.cells #[x0, x1, x2, x3, x4] t (0, 0))) : w.cell? ⟨b, 0, none⟩ = some x0 ∧ w.cell? ⟨b, 1, none⟩ = some x1 ∧ w.cell? ⟨b, 2, none⟩ = some x2 ∧ w.cell? ⟨b, 3, none⟩ = some x3 :=
  ⟨cell_of_row _ _ 0 _ _ _ h, cell_of_row _ _ 1 _ _ _ h, cell_of_row _ _ 2 _ _ _ h, cell_of_row _ _ 3 _ _ _ h⟩
theorem cbox15 (w : World) (base pg wk hd sc : Int) : ∃ D, w.alloc (.cells #[.int .i64 base, .int .i64 pg, .int .i64 wk, .int .i64 hd, .int .i64 sc] 34) = D ∧ D.heap[w.heap.size]? = some (.cells #[.int .i64 base, .int .i64 pg, .int .i64 wk, .int .i64 hd, .int .i64 sc] 34 (0, 0)) ∧ Below w.heap.size w D :=
  ⟨_, rfl, Go.heap_alloc_new w _, (Below.refl _ w).alloc (Nat.le_refl _) _⟩
set_option maxHeartbeats 4000000 in
theorem enew_arg (w : World) (base pg wk hd sc : Int) (h : ¬ (1 ≤ pg ∧ pg ≤ 4096 ∧ mayE wk hd)) :
    Calls Tryz.prog 29 #[.agg #[.int .i64 base, .int .i64 pg, .int .i64 wk, .int .i64 hd, .int .i64 sc]] w fun e w' => e = .returned (.tuple #[.pointer none, .int .i64 2]) ∧ Below w.heap.size w w' := by
  obtain ⟨D, hD, rD, bD⟩ := cbox15 w base pg wk hd sc
  have HD : Hid _ := hD
  have BD : Hid (Below w.heap.size w D) := bD
  obtain ⟨c0, c1, c2, c3⟩ := cells15c rD
  obtain ⟨Cb, hCb⟩ : ∃ Cb, w.heap.size = Cb := ⟨_, rfl⟩
  have HCB : Hid (w.heap.size = Cb) := hCb
  rw [hCb] at c0 c1 c2 c3
  clear hD bD rD hCb
  by_cases a1 : pg < 1
  · clear h
    go_enter Tryz.func29, Tryz.ntmps29
    go_upto_region 1 with (fail)
    rw [HD.out]
    try rw [HCB.out]
    go_wp2
    go_ret2
    exact ⟨rfl, BD.out⟩
  · by_cases a2 : 4096 < pg
    · clear h
      go_enter Tryz.func29, Tryz.ntmps29
      go_upto_region 1 with (fail)
      rw [HD.out]
      try rw [HCB.out]
      go_wp2
      go_ret2
      exact ⟨rfl, BD.out⟩
    · have HM : Hid (decide (mayE wk hd) = false) := decide_eq_false (fun c => h ⟨by omega, by omega, c⟩)
      clear h
      go_enter Tryz.func29, Tryz.ntmps29
      go_upto_region 1 with (fail)
      rw [HD.out]
      try rw [HCB.out]
      go_wp2_with (go_at_call 79; refine (emay_any wk hd false HM.out _).mono ?_; rintro e w' ⟨rfl, rfl⟩)
      go_ret2
      exact ⟨rfl, BD.out⟩
set_option maxHeartbeats 4000000 in
theorem enew_addr (w : World) (base pg wk hd sc : Int) (h : 1 ≤ pg ∧ pg ≤ 4096 ∧ mayE wk hd) (hg : ¬ goodR base) :
    Calls Tryz.prog 29 #[.agg #[.int .i64 base, .int .i64 pg, .int .i64 wk, .int .i64 hd, .int .i64 sc]] w fun e w' => e = .returned (.tuple #[.pointer none, .int .i64 10]) ∧ Below w.heap.size w w' := by
  obtain ⟨D, hD, rD, bD⟩ := cbox15 w base pg wk hd sc
  have HD : Hid _ := hD
  have BD : Hid (Below w.heap.size w D) := bD
  obtain ⟨c0, c1, c2, c3⟩ := cells15c rD
  obtain ⟨Cb, hCb⟩ : ∃ Cb, w.heap.size = Cb := ⟨_, rfl⟩
  have HCB : Hid (w.heap.size = Cb) := hCb
  rw [hCb] at c0 c1 c2 c3
  have a1 : ¬ pg < 1 := by omega
  have a2 : ¬ 4096 < pg := by omega
  have HM : Hid (decide (mayE wk hd) = true) := decide_eq_true h.2.2
  have HG : Hid (decide (goodR base) = false) := decide_eq_false hg
  clear hD bD rD hCb h hg
  go_enter Tryz.func29, Tryz.ntmps29
  go_upto_region 1 with (fail)
  rw [HD.out]
  try rw [HCB.out]
  go_wp2_with (first | (go_at_call 79; refine (emay_any wk hd true HM.out _).mono ?_; rintro e w' ⟨rfl, rfl⟩) | (go_at_call 80; refine (good_of base false _ HG.out).mono ?_; rintro e w' ⟨rfl, rfl⟩))
  go_ret2
  exact ⟨rfl, BD.out⟩
set_option maxRecDepth 20000 in
set_option maxHeartbeats 4000000 in
/-- A new heap. -/
theorem enew_ok (w : World) (hT : Tabs w) (base sc : Int) (P W N : Nat) (h : 1 ≤ P ∧ P ≤ 4096) (hw : 1 ≤ W ∧ W ≤ 8) (hn : 1 ≤ N ∧ N ≤ 4096) (hg : goodR base) :
    Calls Tryz.prog 29 #[.agg #[.int .i64 base, .int .i64 (P : Nat), .int .i64 (W : Nat), .int .i64 (N : Nat), .int .i64 sc]] w fun e w' => ∃ e2, e = .returned (.tuple #[e2, .int .i64 0]) ∧ HNew w W base P N (.returned e2) w' := by
  obtain ⟨D, hD, rD, bD⟩ := cbox15 w base (P : Nat) (W : Nat) (N : Nat) sc
  have HD : Hid _ := hD
  have BD : Hid (Below w.heap.size w D) := bD
  obtain ⟨c0, c1, c2, c3⟩ := cells15c rD
  obtain ⟨Cb, hCb⟩ : ∃ Cb, w.heap.size = Cb := ⟨_, rfl⟩
  have HCB : Hid (w.heap.size = Cb) := hCb
  rw [hCb] at c0 c1 c2 c3 rD
  have RD : Hid (D.heap[Cb]? = some (.cells #[.int .i64 base, .int .i64 (P : Nat), .int .i64 (W : Nat), .int .i64 (N : Nat), .int .i64 sc] 34 (0, 0))) := rD
  have a1 : ¬ (P : Int) < 1 := by omega
  have a2 : ¬ 4096 < (P : Int) := by omega
  have HM : Hid (decide (mayE (W : Nat) (N : Nat)) = true) := decide_eq_true (by unfold mayE; omega)
  have HG : Hid (decide (goodR base) = true) := decide_eq_true hg
  have MK : ∀ w : World, (Instr.makeSlice 39 (.int .i64 ((P : Nat) * 256)) (.int .i64 ((P : Nat) * 256))).run Tryz.prog w = .ok (.slice (some ⟨w.heap.size, 0, none⟩) (P * 256) (P * 256)) (w.alloc (.cells (cellsB (List.replicate (P * 256) 0)).toArray 5)) := fun w => by
    have := make_B w (P * 256) (by omega)
    rw [show ((P * 256 : Nat) : Int) = (P : Int) * 256 by omega] at this
    exact this
  have w1 : IntKind.i64.wrap ((P : Int) * 256) = (P : Int) * 256 := by rw [IntKind.wrap_i64]; omega
  have BLD : Hid (∀ (E : World), Below D.heap.size D E → Calls Tryz.prog 81 #[.agg #[.int .i64 base, .int .i64 (P : Nat), .slice none 0 0, .slice none 0 0, .slice none 0 0, .slice (some ⟨E.heap.size, 0, none⟩) (P * 256) (P * 256)], .int .i64 (W : Nat), .int .i64 (N : Nat)] (E.alloc (.cells (cellsB (List.replicate (P * 256) 0)).toArray 5)) (fun e w' => (∃ e2, e = .returned e2 ∧ HNew w W base P N (.returned e2) w') ∧ Below D.heap.size D w')) := fun E hE => by
    have bE : Below E.heap.size E (E.alloc (.cells (cellsB (List.replicate (P * 256) 0)).toArray 5)) := (Below.refl _ E).alloc (Nat.le_refl _) _
    have bb := BD.out.trans ((hE.trans (bE.mono hE.size)).mono BD.out.size)
    have rB : RowB (E.alloc (.cells (cellsB (List.replicate (P * 256) 0)).toArray 5)) E.heap.size (List.replicate (P * 256) 0) := Go.heap_alloc_new E _
    have cc : Below D.heap.size D (E.alloc (.cells (cellsB (List.replicate (P * 256) 0)).toArray 5)) := hE.trans (bE.mono hE.size)
    refine Calls.mono (ebuild_new _ (hT.keep bb) base hg P W N h hw hn _ (P * 256) (rB.isB (fun x hx => by rw [(List.mem_replicate.1 hx).2]; omega))) (fun e w' ⟨Λ, hb, pa, pk, pc, pn, mb, q1, q2, q3, q4, q5⟩ => ⟨⟨_, q1, Λ, hb, pa, pk, pc, pn, mb, rfl, q2, bb.trans (q3.mono bb.size), fun k hk => q4 k (Nat.lt_of_lt_of_le hk bb.size), q5⟩, cc.trans (q3.mono cc.size)⟩)
  clear hD bD rD hCb h hg hT hw hn
  go_enter Tryz.func29, Tryz.ntmps29
  go_upto_region 1 with (fail)
  rw [HD.out]
  try rw [HCB.out]
  go_upto_region 5 with (first | (go_at_call 79; refine (emay_any (W : Nat) (N : Nat) true HM.out _).mono ?_; rintro e w' ⟨rfl, rfl⟩) | (go_at_call 80; refine (good_of base true _ HG.out).mono ?_; rintro e w' ⟨rfl, rfl⟩))
  go_region_held3 (fun w' => w'.cell? ⟨Cb, 0, none⟩ = some (.int .i64 base) ∧ w'.cell? ⟨Cb, 1, none⟩ = some (.int .i64 (P : Nat)) ∧ w'.cell? ⟨Cb, 2, none⟩ = some (.int .i64 (W : Nat)) ∧ w'.cell? ⟨Cb, 3, none⟩ = some (.int .i64 (N : Nat))) (first | assumption | exact ⟨by assumption, by assumption, by assumption, by assumption⟩ | go_keep)
    ((go_at_call 81; refine Calls.mono (BLD.out D.drew (Below.drew15 D)) ?_; rintro e w5 ⟨⟨e2, rfl, h5⟩, b5⟩; have H5 : Hid (HNew w W base P N (.returned e2) w5) := h5; obtain ⟨r0, r1, r2, r3⟩ := cells15c (by have := RD.out; rw [← b5.block Cb (hlt this)] at this; exact this); clear h5 b5))
  all_goals
    go_wp2
    go_ret2
    exact ⟨_, rfl, H5.out⟩
end Go.Proofs.YtgdjlopnhecmjaaGreatDoor

/- Layer 15: the document's example, its numbers. -/
namespace Go.Proofs.YtgdjlopnhecmjaaGreatDoor
open Go.RowKit
set_option linter.unusedVariables false
set_option maxRecDepth 4000

def x1m : List Sg := (takeM 1 1 0 16 []).2.2
def x2m : List Sg := (takeM 1 1 0 16 x1m).2.2
def xks : List Kn := [⟨16, [0]⟩]
def x1r : List HRw := makeL [] (0 : Nat) (0 : Nat)
def x2r : List HRw := makeL x1r (0 : Nat) (16 : Nat)
def x0b : List Int := List.replicate (1 * 256) 0
def x1b : List Int := zeroR x0b (0 : Nat) 16
def x2b : List Int := zeroR x1b (16 : Nat) 16
def x3b : List Int := writeR x2b (0 + 0) (putL 8 (256 + 16))
def xV : Vw := ⟨0, 0, xks, x2r, [], []⟩
set_option maxRecDepth 100000
theorem x_t1 : takeM 1 1 0 16 [] = (0, 0, x1m) := Prod.ext (by show _ = 0; decide +kernel) (Prod.ext (by show _ = 0; decide +kernel) rfl)
theorem x_t2 : takeM 1 1 0 16 x1m = (16, 0, x2m) := Prod.ext (by show _ = 16; decide +kernel) (Prod.ext (by show _ = 0; decide +kernel) rfl)
theorem x_o0 : Okc 1 1 [] := ⟨by decide, by decide, by decide, by decide, by show 0 ≤ 1; decide⟩
theorem x_o1 : Okc 1 1 x1m := ⟨by decide, by decide, by decide, by decide, (take_ok x_o0.fit x_t1).fit⟩
theorem x_o2 : Okc 1 1 x2m := ⟨by decide, by decide, by decide, by decide, (take_ok x_o1.fit x_t2).fit⟩
theorem x_n0 : nxL ([] : List HRw) = 0 ∧ nxL x1r = 1 ∧ nxL x2r = 2 := by decide +kernel
theorem x_h : ofN ((nxL ([] : List HRw) : Nat) + 1) (makeG ([] : List HRw)) = 65537 ∧ ofN ((nxL x1r : Nat) + 1) (makeG x1r) = 65538 := by decide +kernel
theorem x_w3 : wordR x3b (0 + 0) = 272 := by decide +kernel
theorem x_f : fldU xV x2r.length = [0, 16] := by decide +kernel
theorem x_w4 : wordR (unL (256 + 16) [0, 16] x3b) (0 + 0) = 0 := by decide +kernel
theorem x_r2 : x2r = [⟨1, true, 0, 0⟩, ⟨1, true, 0, 16⟩] := rfl
theorem x_la : Liv xks x2r 65537 0 0 0 := ⟨by decide, ⟨_, rfl, rfl, rfl, rfl⟩, rfl, by decide, rfl, by decide, by decide, by decide⟩
theorem x_lb : Liv xks x2r 65538 1 0 16 := ⟨by decide, ⟨_, rfl, rfl, rfl, rfl⟩, rfl, by decide, rfl, by decide, by decide, by decide⟩
theorem x_ld : Liv xks (dropL x2r 1) 65537 0 0 0 := ⟨by decide, ⟨_, rfl, rfl, rfl, rfl⟩, rfl, by decide, rfl, by decide, by decide, by decide⟩
theorem x_fv : fieldV (knD xks 0).s (knD xks 0).l 0 = (0, true) := by decide +kernel
theorem x_len : x0b.length = 256 ∧ x2b.length = 256 ∧ x3b.length = 256 ∧ (unL (256 + 16) (fldU xV x2r.length) x3b).length = 256 := by decide +kernel
theorem x_e : errR x2b.length (0 + 0) 8 = 0 ∧ errR x3b.length (0 + 0) 8 = 0 ∧ errR (unL (256 + 16) (fldU xV x2r.length) x3b).length (0 + 0) 8 = 0 := by decide +kernel
theorem x_de : defE [] 16 [0] = 0 ∧ defV [] 16 [0] = 0 := by decide +kernel
theorem x_dk : defK [] 16 [0] = xks := by unfold defK; rw [if_pos x_de.1]; rfl
theorem x_pl : plE (knD xks 0) 0 9 = 11 := by decide +kernel
theorem x_of : -1 ≤ ofI 16 ∧ ofI 16 ≤ 7 := by decide +kernel
end Go.Proofs.YtgdjlopnhecmjaaGreatDoor

/- Layer 15: the document's example: what alive answers. -/
namespace Go.Proofs.YtgdjlopnhecmjaaGreatDoor
open Go.RowKit
set_option linter.unusedVariables false
set_option maxRecDepth 4000

/-- The example's heap. -/
def XS (w0 w : World) (hb pa pk pc pn mb q : Nat) (bs : List Int) (ks : List Kn) (m : List Sg) (rs : List HRw) (f : Int → Option Nat) : Prop :=
  ∃ Λ, Ehx w Λ hb pa pk pc pn mb q 1 256 bs ks 1 m 2 rs f ∧ Below w0.heap.size w0 w ∧ ∀ k, k < w0.heap.size → Λ k = 0
theorem ehm_low {w0 w w' : World} {Λ Λ' : Nat → Nat} (hz : ∀ k, k < w0.heap.size → Λ k = 0) (b : Below w0.heap.size w0 w) (m : Ehm Λ w Λ' w') : Below w0.heap.size w0 w' ∧ ∀ k, k < w0.heap.size → Λ' k = 0 := by
  have s := b.size
  refine ⟨b.trans ⟨m.tu.os, m.tu.tape, m.tu.output, m.tu.size, fun k hk => ?_⟩, fun k hk => by rw [m.ext k (by omega)]; exact hz k hk⟩
  have hk2 : k < w.heap.size := by omega
  rw [Array.getElem?_eq_getElem hk2]
  exact m.tu.block k _ (Array.getElem?_eq_getElem hk2) (by rw [hz k hk]; omega)
theorem XS.below {w0 w w' : World} {hb pa pk pc pn mb q : Nat} {bs : List Int} {ks : List Kn} {m : List Sg} {rs : List HRw} {f : Int → Option Nat} (h : XS w0 w hb pa pk pc pn mb q bs ks m rs f) (b : Below w.heap.size w w') : XS w0 w' hb pa pk pc pn mb q bs ks m rs f := by
  obtain ⟨Λ, h1, h2, h3⟩ := h
  obtain ⟨h4, h5⟩ := h1.keep b
  obtain ⟨h6, h7⟩ := ehm_low h3 h2 h5
  exact ⟨_, h4, h6, h7⟩
section
variable {w0 w : World} {hb pa pk pc pn mb : Nat}
theorem x_define (h : XS w0 w hb pa pk pc pn mb 0 x0b [] [] [] (fun _ => none)) (a : Option Addr) (hI : IsI w a [0]) (ha : a ≠ none) :
    Calls Tryz.prog 46 #[.pointer (some ⟨hb, 0, none⟩), .agg #[.int .i64 16, .slice a 1 1]] w fun e w' => (∃ v, e = .returned v) ∧ XS w0 w' hb pa pk pc pn mb 0 x0b xks [] [] (fun _ => none) := by
  obtain ⟨Λ, h1, h2, h3⟩ := h
  have q := edefine_any h1 16 a 1 [0] hI (fun e => absurd e ha) (by show 1 ≤ maxLen; decide)
  refine q.mono (fun e w' ⟨e1, Λ', e2, e3⟩ => ⟨⟨_, e1⟩, ?_⟩)
  rw [x_dk] at e2
  obtain ⟨h6, h7⟩ := ehm_low h3 h2 e3
  exact ⟨_, e2, h6, h7⟩
theorem x_alloc1 (h : XS w0 w hb pa pk pc pn mb 0 x0b xks [] [] (fun _ => none)) :
    Calls Tryz.prog 24 #[.pointer (some ⟨hb, 0, none⟩), .int .i64 0, .int .i64 0] w fun e w' => e = .returned (.tuple #[.int .u64 65537, .int .i64 0]) ∧ XS w0 w' hb pa pk pc pn mb 1 x1b xks x1m x1r (fun j => if j = 0 then some 65537 else none) := by
  obtain ⟨Λ, h1, h2, h3⟩ := h
  have q := ealloc_any h1 x_o0 0 0 (by decide) (by decide) (by rw [x_n0.1]; decide) (by decide) 0 0 x1m x_t1 x_of (by decide) (by decide) 65537 x_h.1
  refine q.mono (fun e w' ⟨_, e1⟩ => ?_)
  obtain ⟨e2, Λ', e3, e4⟩ := e1 rfl
  obtain ⟨h6, h7⟩ := ehm_low h3 h2 e4
  exact ⟨e2, _, e3, h6, h7⟩
theorem x_alloc2 (h : XS w0 w hb pa pk pc pn mb 1 x1b xks x1m x1r (fun j => if j = 0 then some 65537 else none)) :
    Calls Tryz.prog 24 #[.pointer (some ⟨hb, 0, none⟩), .int .i64 0, .int .i64 0] w fun e w' => e = .returned (.tuple #[.int .u64 65538, .int .i64 0]) ∧ XS w0 w' hb pa pk pc pn mb 2 x2b xks x2m x2r (fun j => if j = 16 then some 65538 else if j = 0 then some 65537 else none) := by
  obtain ⟨Λ, h1, h2, h3⟩ := h
  have q := ealloc_any h1 x_o1 0 0 (by decide) (by decide) (by rw [x_n0.2.1]; decide) (by decide) 16 0 x2m x_t2 x_of (by decide) (by decide) 65538 x_h.2
  refine q.mono (fun e w' ⟨_, e1⟩ => ?_)
  obtain ⟨e2, Λ', e3, e4⟩ := e1 rfl
  obtain ⟨h6, h7⟩ := ehm_low h3 h2 e4
  exact ⟨e2, _, e3, h6, h7⟩
theorem x_alloc3 {f : Int → Option Nat} (h : XS w0 w hb pa pk pc pn mb 2 x2b xks x2m x2r f) :
    Calls Tryz.prog 24 #[.pointer (some ⟨hb, 0, none⟩), .int .i64 0, .int .i64 0] w fun e w' => e = .returned (.tuple #[.int .u64 0, .int .i64 7]) ∧ XS w0 w' hb pa pk pc pn mb 2 x2b xks x2m x2r f := by
  have H := h
  obtain ⟨Λ, h1, h2, h3⟩ := h
  exact (ealloc_full h1 0 0 (by decide) (by decide) (by rw [x_n0.2.2]; decide)).mono (fun e w' ⟨e1, e2⟩ => ⟨e1, H.below e2⟩)
theorem x_set {f : Int → Option Nat} (h : XS w0 w hb pa pk pc pn mb 2 x2b xks x2m x2r f) :
    Calls Tryz.prog 47 #[.pointer (some ⟨hb, 0, none⟩), .int .u64 65537, .int .i64 0, .int .u64 65538] w fun e w' => (∃ v, e = .returned v) ∧ XS w0 w' hb pa pk pc pn mb 2 x3b xks x2m x2r f := by
  obtain ⟨Λ, h1, h2, h3⟩ := h
  have q := eset_any h1 65537 65538 0 1 0 0 0 16 0 0 x_la x_lb (by decide) x_fv (by decide) (by decide) 0 x_e.1
  refine q.mono (fun e w' ⟨e1, Λ', e2, e3⟩ => ⟨⟨_, e1⟩, ?_⟩)
  obtain ⟨h6, h7⟩ := ehm_low h3 h2 e3
  exact ⟨_, e2, h6, h7⟩
theorem x_get (h : XS w0 w hb pa pk pc pn mb 2 x3b xks x2m x2r (fun j => if j = 16 then some 65538 else if j = 0 then some 65537 else none)) :
    Calls Tryz.prog 37 #[.pointer (some ⟨hb, 0, none⟩), .int .u64 65537, .int .i64 0] w fun e w' => e = .returned (.tuple #[.int .u64 65538, .int .i64 0]) ∧ XS w0 w' hb pa pk pc pn mb 2 x3b xks x2m x2r (fun j => if j = 16 then some 65538 else if j = 0 then some 65537 else none) := by
  have H := h
  obtain ⟨Λ, h1, h2, h3⟩ := h
  exact (eget_any h1 65537 0 0 0 0 0 x_la (by decide) x_fv (by decide) 272 x_w3 (by decide) 0 x_e.2.1 65538 (by decide)).mono (fun e w' ⟨e1, e2⟩ => ⟨e1, H.below e2⟩)
/-- What is left behind the end of the second object. -/
def XE (w0 w : World) (hb pa pk pc pn mb : Nat) : Prop := ∃ m, XS w0 w hb pa pk pc pn mb 2 (unL (256 + 16) (fldU xV x2r.length) x3b) xks m (dropL x2r 1) (fun j => if j = 16 then none else if j = 16 then some 65538 else if j = 0 then some 65537 else none)
theorem x_free (h : XS w0 w hb pa pk pc pn mb 2 x3b xks x2m x2r (fun j => if j = 16 then some 65538 else if j = 0 then some 65537 else none)) :
    Calls Tryz.prog 36 #[.pointer (some ⟨hb, 0, none⟩), .int .i64 0, .int .u64 65538] w fun e w' => e = .returned (.int .i64 0) ∧ XE w0 w' hb pa pk pc pn mb := by
  obtain ⟨Λ, h1, h2, h3⟩ := h
  have q := efree_any h1 x_o2 0 (by decide) 65538 1 0 16 x_lb xV rfl rfl (by rw [x_f, x_len.2.2.1]; decide) (by rw [x_len.2.2.1]; decide) (by rw [x_r2]; intro r hr hl; exact ⟨0, by (match r, hr with | 0, _ => rfl | 1, _ => rfl), by decide⟩) (by rw [x_r2]; intro r hr hl; (match r, hr with | 0, _ => decide | 1, _ => decide)) (by intro k hk; (match k, hk with | 0, _ => decide)) _ _ (Prod.eta _).symm
  refine q.mono (fun e w' ⟨e1, Λ', e2, e3⟩ => ⟨e1, (giveM 1 0 16 x2m).2, ?_⟩)
  obtain ⟨h6, h7⟩ := ehm_low h3 h2 e3
  exact ⟨_, e2, h6, h7⟩
theorem x_get2 (h : XE w0 w hb pa pk pc pn mb) :
    Calls Tryz.prog 37 #[.pointer (some ⟨hb, 0, none⟩), .int .u64 65537, .int .i64 0] w fun e w' => e = .returned (.tuple #[.int .u64 0, .int .i64 0]) ∧ XE w0 w' hb pa pk pc pn mb := by
  obtain ⟨m, h⟩ := h
  have H := h
  obtain ⟨Λ, h1, h2, h3⟩ := h
  exact (eget_any h1 65537 0 0 0 0 0 x_ld (by decide) x_fv (by decide) 0 (by rw [x_f]; exact x_w4) (by decide) 0 x_e.2.2 0 (by decide)).mono (fun e w' ⟨e1, e2⟩ => ⟨e1, m, H.below e2⟩)
theorem x_read (h : XE w0 w hb pa pk pc pn mb) :
    Calls Tryz.prog 48 #[.pointer (some ⟨hb, 0, none⟩), .int .u64 65537, .int .i64 0, .int .i64 9] w fun e w' => e = .returned (.tuple #[.slice none 0 0, .int .i64 11]) ∧ Below w0.heap.size w0 w' := by
  obtain ⟨m, h⟩ := h
  have H := h
  obtain ⟨Λ, h1, h2, h3⟩ := h
  refine (eread_any h1 65537 0 0 0 0 9 x_ld (by decide) (by decide)).mono (fun e w' ⟨e1, _⟩ => ?_)
  obtain ⟨e2, e3⟩ := e1 (by rw [x_pl]; decide)
  rw [x_pl] at e2
  exact ⟨e2, h2.trans (e3.mono h2.size)⟩
end
set_option maxRecDepth 20000 in
set_option maxHeartbeats 4000000 in
theorem alive15_any (w : World) (hT : Tabs w) : Calls Tryz.prog 12 #[] w fun e w' => e = .returned (.bool true) ∧ Below w.heap.size w w' := by
  have NEW : Hid (Calls Tryz.prog 29 #[.agg #[.int .i64 256, .int .i64 1, .int .i64 1, .int .i64 2, .int .i64 0]] w fun e w' => ∃ hb pa pk pc pn mb, e = .returned (.tuple #[.pointer (some ⟨hb, 0, none⟩), .int .i64 0]) ∧ XS w w' hb pa pk pc pn mb 0 x0b [] [] [] (fun _ => none)) := by
    refine Calls.mono (enew_ok w hT 256 0 1 1 2 (by decide) (by decide) (by decide) (by unfold goodR; decide)) ?_
    rintro e w' ⟨e2, e1, Λ, hb, pa, pk, pc, pn, mb, e3, h1, h2, h3, h4⟩
    cases e3
    exact ⟨hb, pa, pk, pc, pn, mb, e1, Λ, h1, h2, h3⟩
  clear hT
  go_enter Tryz.func12, Tryz.ntmps12
  go_wp2_with fail
  refine Calls.mono NEW.out ?_
  rintro e w1 ⟨hb, pa, pk, pc, pn, mb, rfl, h1⟩
  obtain ⟨D, hD⟩ : ∃ D, w1.alloc (.cells #[.int .i64 0] 3) = D := ⟨_, rfl⟩
  have HD : Hid (w1.alloc (.cells #[.int .i64 0] 3) = D) := hD
  have bD : Below w1.heap.size w1 D := by rw [← hD]; exact (Below.refl _ w1).alloc (Nat.le_refl _) _
  have S1 : Hid (XS w D hb pa pk pc pn mb 0 x0b [] [] [] (fun _ => none)) := h1.below bD
  have I1 : Hid (IsI D (some ⟨w1.heap.size, 0, none⟩) [0]) := by
    refine ⟨fun x hx => by rw [List.mem_singleton.1 hx]; decide, .inr ⟨w1.heap.size, 0, rfl, by rw [← hD]; simp, fun i hi => ?_⟩⟩
    have e : i = 0 := by simpa using hi
    subst e
    have r : D.heap[w1.heap.size]? = some (.cells #[.int .i64 0] 3 (0, 0)) := by rw [← hD]; exact Go.heap_alloc_new w1 _
    exact cell_of_row _ _ 0 _ _ _ r
  clear h1 hD bD
  go_wp2_with fail
  rw [HD.out]
  refine Calls.mono (x_define S1.out _ I1.out (by simp)) ?_
  rintro e w2 ⟨⟨v2, rfl⟩, h2⟩
  have S2 : Hid _ := h2
  clear h2
  go_wp2_with fail
  refine Calls.mono (x_alloc1 S2.out) ?_
  rintro e w3 ⟨rfl, h3⟩
  have S3 : Hid _ := h3
  clear h3
  go_wp2_with fail
  refine Calls.mono (x_alloc2 S3.out) ?_
  rintro e w4 ⟨rfl, h4⟩
  have S4 : Hid _ := h4
  clear h4
  go_wp2_with fail
  refine Calls.mono (x_alloc3 S4.out) ?_
  rintro e w5 ⟨rfl, h5⟩
  have S5 : Hid _ := h5
  clear h5
  go_wp2_with fail
  refine Calls.mono (x_set S5.out) ?_
  rintro e w6 ⟨⟨v6, rfl⟩, h6⟩
  have S6 : Hid _ := h6
  clear h6
  go_wp2_with fail
  refine Calls.mono (x_get S6.out) ?_
  rintro e w7 ⟨rfl, h7⟩
  have S7 : Hid _ := h7
  clear h7
  go_wp2_with fail
  refine Calls.mono (x_free S7.out) ?_
  rintro e w8 ⟨rfl, h8⟩
  have S8 : Hid _ := h8
  clear h8
  go_wp2_with fail
  refine Calls.mono (x_get2 S8.out) ?_
  rintro e w9 ⟨rfl, h9⟩
  have S9 : Hid _ := h9
  clear h9
  go_wp2_with fail
  refine Calls.mono (x_read S9.out) ?_
  rintro e wz ⟨rfl, hz⟩
  have BZ : Hid (Below w.heap.size w wz) := hz
  clear hz
  go_wp2
  go_ret
  exact ⟨rfl, BZ.out⟩
end Go.Proofs.YtgdjlopnhecmjaaGreatDoor

/- Layer 15: View of a heap; a heap that isn't there. -/
namespace Go.Proofs.YtgdjlopnhecmjaaGreatDoor
open Go.RowKit
set_option linter.unusedVariables false
set_option maxRecDepth 4000

theorem edefine_nil (k : Value) (hk : ∃ s a n c, k = .agg #[.int .i64 s, .slice a n c]) (w : World) : Calls Tryz.prog 46 #[.pointer none, k] w fun e w' => e = .returned (.tuple #[.int .i64 0, .int .i64 1]) ∧ Below w.heap.size w w' := by
  obtain ⟨s, a, n, c, rfl⟩ := hk
  go_enter Tryz.func46, Tryz.ntmps46
  go_wp2
  go_ret2
  exact ⟨rfl, (Below.refl _ w).alloc (Nat.le_refl _) _⟩
theorem ealloc_nil (v k : Int) (w : World) : Calls Tryz.prog 24 #[.pointer none, .int .i64 v, .int .i64 k] w fun e w' => e = .returned (.tuple #[.int .u64 0, .int .i64 1]) ∧ w = w' := by
  go_enter Tryz.func24, Tryz.ntmps24
  go_wp2_with (go_at_call 68; refine (ecw_nil v _).mono ?_; rintro e w' ⟨rfl, rfl⟩)
  go_ret2
  exact ⟨rfl, rfl⟩
theorem efree_nil (v : Int) (x : Nat) (w : World) : Calls Tryz.prog 36 #[.pointer none, .int .i64 v, .int .u64 (x : Nat)] w fun e w' => e = .returned (.int .i64 1) ∧ w = w' := by
  go_enter Tryz.func36, Tryz.ntmps36
  go_wp2_with (go_at_call 68; refine (ecw_nil v _).mono ?_; rintro e w' ⟨rfl, rfl⟩)
  go_ret
  exact ⟨rfl, rfl⟩
set_option maxRecDepth 20000 in
set_option maxHeartbeats 2000000 in
theorem eobject_nil (x : Nat) (w : World) : Calls Tryz.prog 158 #[.pointer none, .int .u64 (x : Nat)] w fun e w' => e = .returned (.tuple #[.agg #[.int .i64 0, .slice none 0 0], .int .i64 0, .int .i64 1]) ∧ Below w.heap.size w w' := by
  obtain ⟨D, hD, rD, bD⟩ := kbox15 w 0 (.slice none 0 0)
  have HD : Hid (w.alloc (.cells #[.int .i64 0, .slice none 0 0] 103) = D) := hD
  obtain ⟨m0, m1, mz0, mz1⟩ := cbx15 rD
  have e0 := laid0 (k := 0) (v := .slice none 0 0) m0
  have e1 := laid1 (k := 0) (v := .slice none 0 0) m1
  have BF : Hid (Below w.heap.size w (laid D w.heap.size 0 (.slice none 0 0))) := bD.trans (Tg.below (Tg.ofOnly lonly15) (Nat.le_refl _) bD.size)
  unfold laid at e0 e1
  clear hD rD bD
  go_enter Tryz.func158, Tryz.ntmps158
  go_upto_region 1 with (fail)
  rw [HD.out]
  go_wp2
  refine bodyPost_ret (v := .tuple #[.agg #[.int .i64 0, .slice none 0 0], .int .i64 0, .int .i64 1]) (by simp [results, Tryz.results158, go_sem, e0, e1]) rfl ⟨rfl, BF.out⟩
theorem eflush_nil (v : Int) (w : World) : Calls Tryz.prog 26 #[.pointer none, .int .i64 v] w fun e w' => e = .returned (.int .i64 1) ∧ w = w' := by
  go_enter Tryz.func26, Tryz.ntmps26
  go_wp2
  go_ret
  exact ⟨rfl, rfl⟩
theorem escav_nil (w : World) : Calls Tryz.prog 27 #[.pointer none] w fun e w' => e = .returned (.tuple #[]) ∧ w = w' := by
  go_enter Tryz.func27, Tryz.ntmps27
  go_wp2
  go_end0
  exact ⟨rfl, rfl⟩
theorem ecompact_nil (w : World) : Calls Tryz.prog 21 #[.pointer none] w fun e w' => (∃ v, e = .returned v) ∧ w = w' := by
  go_enter Tryz.func21, Tryz.ntmps21
  go_wp2
  refine bodyPost_ret (v := .tuple #[]) (by simp [results, Tryz.results21, go_sem]) rfl ⟨⟨_, rfl⟩, rfl⟩
theorem zbox15 (w : World) : ∃ D, w.alloc (.cells #[.int .i64 0, .int .i64 0, .slice none 0 0, .slice none 0 0, .slice none 0 0, .slice none 0 0] 54) = D ∧ D.heap[w.heap.size]? = some (.cells #[.int .i64 0, .int .i64 0, .slice none 0 0, .slice none 0 0, .slice none 0 0, .slice none 0 0] 54 (0, 0)) ∧ Below w.heap.size w D :=
  ⟨_, rfl, Go.heap_alloc_new w _, (Below.refl _ w).alloc (Nat.le_refl _) _⟩
set_option maxRecDepth 20000 in
set_option maxHeartbeats 2000000 in
theorem eview_nil (w : World) : Calls Tryz.prog 19 #[.pointer none] w fun e w' => e = .returned (.agg #[.int .i64 0, .int .i64 0, .slice none 0 0, .slice none 0 0, .slice none 0 0, .slice none 0 0]) ∧ Below w.heap.size w w' := by
  obtain ⟨D, hD, rD, bD⟩ := zbox15 w
  have HD : Hid _ := hD
  obtain ⟨vb, hvb⟩ : ∃ vb, w.heap.size = vb := ⟨_, rfl⟩
  have HVB : Hid (w.heap.size = vb) := hvb
  rw [hvb] at rD
  obtain ⟨y0, y1, y2, y3, y4, y5⟩ := six rD
  obtain ⟨f0, f1, f2, f3, f4, f5⟩ := sixF rD
  obtain ⟨e0, e1, e2, e3, e4, e5⟩ := six (layV_row (a := .int .i64 0) (b := .int .i64 0) (c := .slice none 0 0) (d := .slice none 0 0) (e := .slice none 0 0) (f := .slice none 0 0) rD)
  have BF : Hid (Below w.heap.size w (layV D vb (.int .i64 0) (.int .i64 0) (.slice none 0 0) (.slice none 0 0) (.slice none 0 0) (.slice none 0 0))) := bD.trans ((layV_only D vb _ _ _ _ _ _).below (by omega))
  unfold layV at e0 e1 e2 e3 e4 e5
  clear hD rD bD hvb
  go_enter Tryz.func19, Tryz.ntmps19
  go_upto_region 1 with (fail)
  rw [HD.out]
  try rw [HVB.out]
  go_wp2
  refine bodyPost_ret (v := .agg #[.int .i64 0, .int .i64 0, .slice none 0 0, .slice none 0 0, .slice none 0 0, .slice none 0 0]) (by simp [results, Tryz.results19, go_sem, e0, e1, e2, e3, e4, e5]) rfl ⟨rfl, BF.out⟩
end Go.Proofs.YtgdjlopnhecmjaaGreatDoor
