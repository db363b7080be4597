/- The walk of RelocElse. -/
import Derived.Test.YthlnljabbnhfkaaRoX
namespace Go.Proofs.Ythlnljabbnhfkaa
open Go.RowKit
set_option linter.unusedVariables false

/-! ### answers that fill a block -/
def cellsO (l : List Bool) : List Value := l.map Value.bool
def RowO (w : World) (g : Nat) (l : List Bool) : Prop := w.heap[g]? = some (.cells (cellsO l).toArray 4 (0, 0))
theorem RowO.lt {w : World} {g : Nat} {l : List Bool} (h : RowO w g l) : g < w.heap.size := (Array.getElem?_eq_some_iff.1 h).1
theorem RowO.cell {w : World} {g : Nat} {l : List Bool} (h : RowO w g l) (i : Nat) (hi : i < l.length) : w.cell? ⟨g, i, none⟩ = some (.bool (l.getD i false)) := by
  rw [cell_of_row w g i _ _ _ h]; simp [cellsO, hi, List.getD]
theorem RowO.thawed {w : World} {g : Nat} {l : List Bool} (h : RowO w g l) (i : Nat) : w.frozen? ⟨g, i, none⟩ = false := frozen_of_row w g i _ 4 h
theorem RowO.set {w : World} {g : Nat} {l : List Bool} (h : RowO w g l) (i : Nat) (v : Bool) : RowO (w.setCell ⟨g, i, none⟩ (.bool v)) g (l.set i v) := by
  have h1 := heap_setCell_same w g i _ _ (.bool v) h
  show (World.setCell _ _ _).heap[g]? = _
  rw [h1]
  simp [cellsO, List.map_set]
theorem Try.info4 : (Try.prog.info? 4).map (fun i => (i.zero, i.size, i.bytes)) = some (some (.bool false), 1, 1) := by kernel_rfl
theorem made_O (n : Nat) : madeCells #[.bool false] n = (cellsO (List.replicate n false)).toArray := by
  apply Array.ext'
  simp [madeCells, cellsO]
  apply List.ext_getElem
  · simp
  · intro i h1 h2; simp [Nat.mod_one]
theorem make_O (w : World) (n : Nat) (hn : n ≤ 1000000000) : (Instr.makeSlice 53 (.int .i64 (n : Nat)) (.int .i64 (n : Nat))).run Try.prog w = .ok (.slice (some ⟨w.heap.size, 0, none⟩) n n) (w.alloc (.cells (cellsO (List.replicate n false)).toArray 4)) := by
  obtain ⟨i0, hi0, hz0, hs0, hb0⟩ := info_parts Try.info4
  have h := run_make (P := Try.prog) w 53 4 i0 _ Try.underlying53 hi0 hz0 .i64 .i64 (n : Int) (n : Int) (by omega) (Int.le_refl _) (by rw [hb0]; omega) (by omega)
  rw [h, hs0]
  simp only [Int.toNat_natCast, Value.cells, Nat.mul_one, made_O]
/-- All bytes of words that aren't 0 are marked. -/
def Cov (b : List Int) (ps : List Int) (bl : List Bool) : Prop := ∀ p ∈ ps, wordT b p ≠ 0 → ∀ i : Nat, p ≤ (i : Int) → (i : Int) < p + 8 → bl.getD i false = true
theorem Cov.set {b ps : List Int} {bl : List Bool} {m : Nat} {v : Bool} (h : Cov b ps bl) (hp : ∀ p ∈ ps, p + 8 ≤ (m : Int)) : Cov b ps (bl.set m v) := by
  intro p hm h0 i i0 i1
  have := hp p hm
  rw [List.getD_eq_getElem?_getD, List.getElem?_set_ne (by omega), ← List.getD_eq_getElem?_getD]
  exact h p hm h0 i i0 i1
theorem set_part {bl : List Bool} {o m : Nat} {v : Bool} (hm : m < bl.length) (h : ∀ i : Nat, o ≤ i → i < m → bl.getD i false = v) : ∀ i : Nat, o ≤ i → i < m + 1 → (bl.set m v).getD i false = v := by
  intro i i0 i1
  by_cases e : i = m
  · subst e; simp [List.getD_eq_getElem?_getD, hm]
  · rw [List.getD_eq_getElem?_getD, List.getElem?_set_ne (by omega), ← List.getD_eq_getElem?_getD]
    exact h i i0 (by omega)
theorem Cov.next {b l : List Int} {bl : List Bool} {k o : Nat} {W : Int} (hk : k < l.length) (ho : l.getD k 0 = (o : Int)) (hW : wordT b (l.getD k 0) = W) (h : Cov b (l.take k) bl) (hp : ∀ i : Nat, o ≤ i → i < o + 8 → bl.getD i false = (W != 0)) : Cov b (l.take (k + 1)) bl := by
  intro p hm h0 i i0 i1
  rw [List.take_succ_eq_append_getElem hk] at hm
  rcases List.mem_append.1 hm with hm | hm
  · exact h p hm h0 i i0 i1
  · have e : p = l.getD k 0 := by simp at hm; simp [List.getD, hk, hm]
    subst e
    rw [hp i (by omega) (by omega), bne_iff_ne, ← hW]
    exact h0
theorem earlier {l : List Int} (hw : l.Pairwise (fun x y => x + 8 ≤ y)) {k : Nat} (hk : k < l.length) : ∀ p ∈ l.take k, p + 8 ≤ l.getD k 0 := by
  intro p hp
  obtain ⟨i, hi, rfl⟩ := List.getElem_of_mem hp
  rw [List.length_take] at hi
  rw [List.getElem_take, List.getD_eq_getElem?_getD, List.getElem?_eq_getElem hk, Option.getD_some]
  exact List.pairwise_iff_getElem.1 hw i k (by omega) hk (by omega)
theorem cov_else {b l : List Int} {bl : List Bool} {fr t : Int} (hl : ∀ p ∈ l, inB b.length p) (h : Cov b l bl) {i : Nat} (hi : bl.getD i false = false) : (goT fr t b l b).getD i 0 = b.getD i 0 := by
  rw [List.getD_eq_getElem?_getD, List.getD_eq_getElem?_getD, goT_get l b hl i (fun p hp => ?_)]
  by_cases h0 : wordT b p = 0
  · exact .inl h0
  · by_cases h1 : (i : Int) < p
    · exact .inr (.inl h1)
    · by_cases h2 : p + 8 ≤ (i : Int)
      · exact .inr (.inr h2)
      · have := h p hp h0 i (by omega) (by omega)
        rw [hi] at this; exact absurd this (by decide)

set_option maxRecDepth 20000 in
set_option maxHeartbeats 16000000 in
theorem relocElse_any (a al : Option Addr) (c cl : Nat) (b l : List Int) (x y z : Int) (w : World) (hB : IsB w a b) (hc : b.length ≤ c) (hbl : b.length ≤ 140737488355328) (hI : IsI w al l) (hm : l.length ≤ maxLen) :
    Calls Try.prog 7 #[.slice a b.length c, .slice al l.length cl, .agg #[.int .i64 x, .int .i64 y, .int .i64 z]] w fun e w' => e = .returned (.bool true) ∧ Below w.heap.size w w' := by
  obtain ⟨D, hD⟩ : ∃ D, w.alloc (.cells #[.int .i64 x, .int .i64 y, .int .i64 z] 46) = D := ⟨_, rfl⟩
  obtain ⟨q0, q1, q2⟩ := boxB w x y z
  rw [hD] at q0 q1 q2
  have B0 : Hid (Below w.heap.size w D) := by show Below _ _ _; rw [← hD]; exact (Below.refl _ w).alloc (Nat.le_refl _) _
  have HI : Hid (IsI w al l) := hI
  have HB : Hid (IsB w a b) := hB
  have HM : Hid (l.length ≤ maxLen) := hm
  unfold maxLen at hm
  by_cases hbig : 2000 < l.length
  · clear hI hB
    go_enter Try.func7, Try.ntmps7
    go_wp2_with (go_at_call 9; refine (alive_any _).mono ?_; rintro e w1 ⟨rfl, b1⟩)
    go_ret
    exact ⟨rfl, B0.out.trans (b1.mono B0.out.size)⟩
  have hbig' : l.length ≤ 2000 := by omega
  by_cases hbb : 20000 < b.length
  · clear hI hB hbig
    go_enter Try.func7, Try.ntmps7
    go_wp2_with (go_at_call 9; refine (alive_any _).mono ?_; rintro e w1 ⟨rfl, b1⟩)
    go_ret
    exact ⟨rfl, B0.out.trans (b1.mono B0.out.size)⟩
  have hbb' : b.length ≤ 20000 := by omega
  obtain ⟨er, her⟩ : ∃ er, applyE b l x y z = er := ⟨_, rfl⟩
  have HER : Hid (applyE b l x y z = er) := her
  obtain ⟨C, hC⟩ : ∃ C, applyB b l x y z = C := ⟨_, rfl⟩
  have HC : Hid (applyB b l x y z = C) := hC
  clear hI hB hbig hbb her hC
  go_enter Try.func7, Try.ntmps7
  go_wp2_with fail
  refine (alive_any _).mono ?_
  rintro e w1 ⟨rfl, b1⟩
  have B1 : Hid (Below w.heap.size w w1) := B0.out.trans (b1.mono B0.out.size)
  have r0 := bcellK b1 q0
  have r1 := bcellK b1 q1
  have r2 := bcellK b1 q2
  clear b1 q0 q1 q2 hD
  go_wp2_with fail
  refine (oapply_any a al c cl b l x y z _ (HB.out.keep B1.out) hc (HI.out.keep B1.out) HM.out hbl).mono ?_
  rw [HER.out, HC.out]
  rintro e w3 ⟨a3, c3, rfl, n3, l3, m3, k3, b3⟩
  have N3 : Hid (NewB w3 w1.heap.size a3 C) := n3
  have B3 : Hid (Below w.heap.size w w3) := B1.out.trans (b3.mono B1.out.size)
  clear n3 m3 k3 b3 r0 r1 r2
  by_cases h0 : er = 0
  · subst h0
    obtain ⟨ha, hr, hn, he⟩ := apply_zero HER.out
    have RIN : Hid (∀ p ∈ l, inB b.length p) := (right_in hr).1
    have PAIR : Hid (l.Pairwise (fun x y => x + 8 ≤ y)) := (right_in hr).2
    have HR : Hid (rightT b.length l = true) := hr
    have CG : Hid (C = goT x y b l b) := by show _ = _; rw [← HC.out, he]
    have hCl : C.length = b.length := by rw [CG.out]; exact goT_len l b (right_in hr).1
    have HCL : Hid (C.length = b.length) := hCl
    rw [hCl] at l3
    rw [hCl]
    clear ha hr hn he hCl
    obtain ⟨E, hE⟩ : ∃ E, w3.alloc (.cells (cellsO (List.replicate b.length false)).toArray 4) = E := ⟨_, rfl⟩
    have hmk := make_O w3 b.length (by omega)
    have hrow : RowO E w3.heap.size (List.replicate b.length false) := by rw [← hE]; exact Go.heap_alloc_new w3 _
    have bE : Below w3.heap.size w3 E := by rw [← hE]; exact (Below.refl _ w3).alloc (Nat.le_refl _) _
    rw [hE] at hmk
    obtain ⟨gw, hgw⟩ : ∃ gw, w3.heap.size = gw := ⟨_, rfl⟩
    rw [hgw] at hmk hrow bE
    have ROW : Hid (RowO E gw (List.replicate b.length false)) := hrow
    have BE : Hid (Below gw w3 E) := bE
    have HGW : Hid (w3.heap.size = gw) := hgw
    have KEEP : Hid (∀ wz, Below gw w3 wz → Below w.heap.size w wz ∧ IsB wz a b ∧ IsI wz al l ∧ IsB wz a3 C) := fun wz hz => by
      rw [← HGW.out] at hz
      have k0 : Below w.heap.size w wz := B3.out.trans (hz.mono B3.out.size)
      exact ⟨k0, HB.out.keep k0, HI.out.keep k0, N3.out.isB.keep hz⟩
    clear hE hrow bE hgw
    go_wp2_with (go_at_call 13; refine (oright_is al cl _ l _ true _ rfl HR.out (HI.out.keep B3.out) HM.out (by omega)).mono ?_; rintro e w3' ⟨rfl, rfl⟩)
    clear hmk
    go_loopw [58] (fun iv wr => ∃ (k : Nat) (bl : List Bool), k ≤ l.length ∧ iv = .int .i64 k ∧ RowO wr gw bl ∧ bl.length = b.length ∧ Cov b (l.take k) bl ∧ Below gw w3 wr) (fun iv _ => l.length - (intOf iv).toNat)
    case atStart => exact ⟨0, _, Nat.zero_le _, rfl, ROW.out, by simp, fun p hp => by simp at hp, BE.out⟩
    case round =>
      obtain ⟨k, bl, hk, rfl, hrw, hbll, hcov, hbw⟩ := hrel
      have HRW : Hid (RowO wr gw bl) := hrw
      have HBL : Hid (bl.length = b.length) := hbll
      have HCOV : Hid (Cov b (l.take k) bl) := hcov
      have HBW : Hid (Below gw w3 wr) := hbw
      obtain ⟨k0, k1, k2, k3⟩ := KEEP.out wr hbw
      by_cases hlt : k < l.length
      · have hmem : l.getD k 0 ∈ l := by simp [List.getD, hlt]
        obtain ⟨hin, h0 | ⟨lb, loff, rfl, hsz, hcl⟩⟩ := k2
        · rw [h0] at hlt; simp at hlt
        have hcell := hcl k hlt
        obtain ⟨p0, p1⟩ := RIN.out _ hmem
        obtain ⟨o, ho⟩ : ∃ o : Nat, l.getD k 0 = (o : Int) := ⟨(l.getD k 0).toNat, by omega⟩
        rw [ho] at hcell p0 p1
        have HO : Hid (l.getD k 0 = (o : Int)) := ho
        have EAR : Hid (∀ p ∈ l.take k, p + 8 ≤ (o : Int)) := by show ∀ p ∈ l.take k, _; rw [← ho]; exact earlier PAIR.out hlt
        obtain ⟨hbb, h0 | ⟨bb, boff, rfl, hbs, hbc⟩⟩ := HB.out
        · rw [h0] at p1; simp at p1; omega
        have HL : Hid (8 = ((b.drop o).take 8).length) := by show _ = _; simp; omega
        obtain ⟨W, hW⟩ : ∃ W, wordT b (o : Int) = W := ⟨_, rfl⟩
        have HV : Hid (getL (((b.drop o).take 8).take 8) = W) := by
          show _ = _
          rw [← hW, wordT, Int.toNat_natCast, List.take_take]
          rfl
        have HW : Hid (wordT b (l.getD k 0) = W) := by show _ = _; rw [HO.out, hW]
        have s1 : ¬ ((o : Int) + 8 < (o : Int)) := by omega
        have s2 : (o : Int) + 8 ≤ (c : Int) := by omega
        have p2 : o + 8 ≤ b.length := by omega
        clear hcl hin hsz hmem ho hbb hbs hbc hW k0 k1 k3 hrw hbll hcov hbw p1
        go_wp2
        go_loopw [12] (fun mv wz => ∃ (m : Nat) (bm : List Bool), o ≤ m ∧ m ≤ o + 8 ∧ mv = .int .i64 (m : Nat) ∧ RowO wz gw bm ∧ bm.length = b.length ∧ Cov b (l.take k) bm ∧ (∀ i : Nat, o ≤ i → i < m → bm.getD i false = (W != 0)) ∧ Below gw w3 wz) (fun mv _ => o + 8 - (intOf mv).toNat)
        case atStart => exact ⟨o, bl, Nat.le_refl _, by omega, rfl, HRW.out, HBL.out, HCOV.out, fun i i0 i1 => by omega, HBW.out⟩
        case round =>
          obtain ⟨m, bm, m0, m1, rfl, hrw, hbml, hcov, hpart, hbw⟩ := hrel
          rename World => wz
          have HRZ : Hid (RowO wz gw bm) := hrw
          have HBZ : Hid (bm.length = b.length) := hbml
          have HCZ : Hid (Cov b (l.take k) bm) := hcov
          have HPZ : Hid (∀ i : Nat, o ≤ i → i < m → bm.getD i false = (W != 0)) := hpart
          have HWZ : Hid (Below gw w3 wz) := hbw
          by_cases hlm : m < o + 8
          · have IP : Hid (IsB wz (some ⟨bb, boff + o, none⟩) ((b.drop o).take 8)) := (KEEP.out wz hbw).2.1.part o 8
            have cb := hrw.cell m (by omega)
            have zb := hrw.thawed m
            have v1 : (m : Int) < (o : Int) + 8 := by omega
            have v2 : (m : Int) < (b.length : Int) := by omega
            have NX : Hid (RowO (wz.setCell ⟨gw, m, none⟩ (.bool (W != 0))) gw (bm.set m (W != 0))) := hrw.set m _
            have NC : Hid (Cov b (l.take k) (bm.set m (W != 0))) := hcov.set (fun p hp => by have := EAR.out p hp; omega)
            have NP : Hid (∀ i : Nat, o ≤ i → i < m + 1 → (bm.set m (W != 0)).getD i false = (W != 0)) := set_part (by omega) hpart
            have NW : Hid (Below gw w3 (wz.setCell ⟨gw, m, none⟩ (.bool (W != 0)))) := hbw.trans ((Only.set gw m (.bool (W != 0)) wz).below (Nat.le_refl _))
            clear hrw hbml hcov hpart hbw
            go_wp2_with (go_at_call 25; refine (get_of _ _ _ ((b.drop o).take 8) W _ (by have := HL.out; omega) HV.out IP.out (by have := HL.out; unfold maxLen; omega)).mono ?_; rintro e w' ⟨rfl, rfl⟩)
            go_roundw
            case rel => exact ⟨m + 1, _, by omega, by omega, by go_num, NX.out, by rw [List.length_set]; exact HBZ.out, NC.out, NP.out, NW.out⟩
            case measure => simp [intOf]; omega
          · obtain rfl : m = o + 8 := by omega
            have NC : Hid (Cov b (l.take (k + 1)) bm) := Cov.next hlt HO.out HW.out hcov hpart
            clear hrw hbml hcov hpart hbw
            go_wp2
            go_roundw
            case rel => exact ⟨k + 1, bm, by omega, by go_num, HRZ.out, HBZ.out, NC.out, HWZ.out⟩
            case measure => simp [intOf]; omega
      · obtain rfl : k = l.length := by omega
        rw [List.take_length] at hcov
        have ELSE : Hid (∀ i, bl.getD i false = false → C.getD i 0 = b.getD i 0) := fun i hi => by rw [CG.out]; exact cov_else RIN.out hcov hi
        have FIN : Hid (Below w.heap.size w wr) := k0
        have KB : Hid (IsB wr a b) := k1
        have KC : Hid (IsB wr a3 C) := k3
        clear k0 k1 k2 k3 hrw hbll hcov hbw
        go_wp2
        go_loopw [82] (fun iv wz => ∃ i m : Nat, i ≤ b.length ∧ iv = .int .i64 i ∧ wz = wr.drewN m) (fun iv _ => b.length - (intOf iv).toNat)
        case atStart => exact ⟨0, 0, Nat.zero_le _, rfl, rfl⟩
        case round =>
          obtain ⟨i, m, hi, rfl, rfl⟩ := hrel
          by_cases hli : i < b.length
          · obtain ⟨_, h0 | ⟨bb, boff, rfl, _, hbc⟩⟩ := KB.out
            · rw [h0] at hli; simp at hli
            obtain ⟨_, h0 | ⟨cb, coff, rfl, _, hcc⟩⟩ := KC.out
            · rw [← HCL.out, h0] at hli; simp at hli
            have d1 := hbc i hli
            have d2 := hcc i (by rw [HCL.out]; exact hli)
            have d3 := HRW.out.cell i (by rw [HBL.out]; exact hli)
            have eL := ELSE.out i
            obtain ⟨V, hV⟩ : ∃ V, b.getD i 0 = V := ⟨_, rfl⟩
            obtain ⟨V2, hV2⟩ : ∃ V2, C.getD i 0 = V2 := ⟨_, rfl⟩
            obtain ⟨f, hf⟩ : ∃ f, bl.getD i false = f := ⟨_, rfl⟩
            rw [hV] at d1 eL
            rw [hV2] at d2 eL
            rw [hf] at d3 eL
            clear hV hV2 hf hbc hcc
            cases f
            · obtain rfl : V2 = V := eL rfl
              clear eL
              go_wp2_with fail
              go_quiet (fail)
              go_wp2
              go_roundw
              case rel => exact ⟨i + 1, m + nq, by omega, by go_num, rfl⟩
              case measure => simp [intOf]; omega
            · clear eL
              go_wp2_with fail
              go_quiet (fail)
              go_wp2
              go_roundw
              case rel => exact ⟨i + 1, m + nq, by omega, by go_num, rfl⟩
              case measure => simp [intOf]; omega
          · go_wp2
            go_ret
            exact ⟨rfl, ⟨FIN.out.os, FIN.out.tape, FIN.out.output, FIN.out.size, FIN.out.block⟩⟩
  · have hq : (er != 0) = true := by rw [bne_iff_ne]; exact h0
    obtain rfl : C = [] := by rw [← HC.out]; exact apply_nil (by rw [HER.out]; exact h0)
    go_wp2
    go_ret
    exact ⟨rfl, B3.out⟩
end Go.Proofs.Ythlnljabbnhfkaa
