/- Layer 19: the document's disk that some bytes are, with all its sectors. -/
import Derived.Test.YtgmmgklcndnehaaDoorGzAG
import Derived.Test.YtgmmgklcndnehaaDoorDlA
namespace Go.Proofs.YtgmmgklcndnehaaDoor
open Go.RowKit Go.Maps
set_option linter.unusedVariables false
set_option maxRecDepth 4000

/-- A disk of the document's that is laid, up to the k-th sector. -/
structure Laying2 (l : List Int) (w wr : World) (br n k : Nat) (as0 : Option Addr) (cs : Nat) (gs : List Nat) : Prop where
  len : gs.length = n
  box : wr.heap[br]? = some (.cells (rboxC as0 n cs none 0 0 (newD 0)) 91 (0, 0))
  sure : RowG wr w.heap.size as0 gs cs
  secs : ∀ i (h : i < gs.length), RowB wr gs[i] 5 ((layK l k).sure i)
  below : Below w.heap.size w wr

set_option maxHeartbeats 8000000 in
theorem rlay_all (a : Option Addr) (cap : Nat) (l : List Int) (w : World) (hB : IsB w a l) (h : l.length % 64 = 0) (h8 : 8 ≤ l.length / 64) (h6 : l.length / 64 ≤ 65536) (hc : l.length ≤ cap) (hcm : cap ≤ maxLen) :
    Calls Tryd.prog 19 #[.slice a l.length cap] w fun e w' => ∃ br, e = .returned (.tuple #[.pointer (some ⟨br, 0, none⟩), .int .i64 0]) ∧ IsR w' w.heap.size br (fun _ => True) (layD l) ∧ Below w.heap.size w w' := by
  have OKL : Hid (DkOk (layD l)) := layD_ok hB.1 (by omega)
  unfold maxLen at hcm
  have tm : (l.length : Int).tmod 64 = 0 := by rw [Int.tmod_eq_emod_of_nonneg (by omega)]; omega
  have td : (l.length : Int).tdiv 64 = ((l.length / 64 : Nat) : Int) := by rw [Int.tdiv_eq_ediv_of_nonneg (by omega)]; omega
  have HB : Hid (IsB w a l) := hB
  obtain ⟨_, rfl | ⟨ib, io, rfl, hib, _⟩⟩ := hB
  · simp at h8
  obtain ⟨n, hn⟩ : ∃ n, l.length / 64 = n := ⟨_, rfl⟩
  have EN : Hid (l.length / 64 = n) := hn
  have hl : l.length = 64 * n := by omega
  have HL : Hid (l.length = 64 * n) := hl
  rw [hn] at td h8 h6
  have wk := wrap_i64 (x := (n : Int)) (by omega)
  clear hn h
  go_enter Tryd.func19, Tryd.ntmps19
  go_wp2_with fail
  refine (rnew_fit n w h8 h6).mono ?_
  rintro e w1 ⟨as0, cs, gs0, rfl, hM⟩
  obtain ⟨br, hbr⟩ : ∃ br, w.heap.size = br := ⟨_, rfl⟩
  have L1 : Hid (Laying2 l w w1 br n 0 as0 cs gs0) := ⟨hM.len, by rw [← hbr]; have := hM.box; rwa [hM.len] at this, hM.sure, fun i hi => (hM.secs _ (List.getElem_mem hi)).1, hM.below⟩
  have GB : Hid (w.heap.size ≤ br) := by show _ ≤ _; omega
  have k0 : w1.cell? ⟨br, 0, none⟩ = some (.slice as0 n cs) := cell_of_row _ _ _ _ _ _ L1.out.box
  rw [hbr]
  clear hM hbr
  go_wp2
  go_loopw [26] (fun iv wr => ∃ (k : Nat) (gs : List Nat), k ≤ n ∧ iv = .int .i64 (k : Nat) ∧ Laying2 l w wr br n k as0 cs gs) (fun iv _ => n - (intOf iv).toNat)
  case atStart => exact ⟨0, gs0, Nat.zero_le _, rfl, L1.out⟩
  case round =>
    clear L1 k0
    obtain ⟨k, gs, hk, rfl, hL⟩ := hrel
    rename World => wr
    have HL2 : Hid (Laying2 l w wr br n k as0 cs gs) := hL
    by_cases hlt : k < n
    · have k0 : wr.cell? ⟨br, 0, none⟩ = some (.slice as0 n cs) := cell_of_row _ _ _ _ _ _ hL.box
      have hbw : br < wr.heap.size := (Array.getElem?_eq_some_iff.1 hL.box).1
      obtain ⟨g, rfl, hge, hgc, ⟨cur, hcur⟩, hgk, hgz⟩ := hL.sure.cell (i := k) (by rw [hL.len]; exact hlt)
      obtain ⟨y, hgy⟩ : ∃ y, wr.cell? ⟨g, k, none⟩ = some (secV y) := ⟨_, hgk⟩
      clear hgk
      have hgw : g < wr.heap.size := (Array.getElem?_eq_some_iff.1 hcur).1
      have hne : br ≠ g := by rintro rfl; rw [hL.box] at hcur; simp at hcur
      have SL : Hid (w.heap.size ≤ g ∧ wr.heap[g]? = some (.cells cur 22 (0, 0))) := ⟨hge, hcur⟩
      obtain ⟨X, hX⟩ : ∃ X, (l.drop (64 * k)).take 64 = X := ⟨_, rfl⟩
      have HXX : Hid ((l.drop (64 * k)).take 64 = X) := hX
      have XL : Hid (X.length = 64) := by show _ = _; rw [← hX]; simp; omega
      have IW : Hid (IsB wr (some ⟨ib, io + 64 * k, none⟩) X) := by
        have := IsB.part (HB.out.keep hL.below) (64 * k) 64 rfl
        rw [hX] at this
        exact this
      have w1' := wrap_i64 (x := 64 * (k : Int)) (by omega)
      have w2' := wrap_i64 (x := 64 * (k : Int) + 64) (by omega)
      have f1 : (0 : Int) ≤ 64 * (k : Int) := by omega
      have f2 : 64 * (k : Int) ≤ 64 * (k : Int) + 64 := by omega
      have f3 : 64 * (k : Int) + 64 ≤ (cap : Int) := by omega
      have f4 : ¬ cap = 64 * k := by omega
      have f5 : (64 * (k : Int)).toNat = 64 * k := by omega
      have f6 : (64 * (k : Int) + 64).toNat = 64 * k + 64 := by omega
      have f7 : (0 : Int) ≤ 64 * (k : Int) + 64 := by omega
      have f8 : 64 * k + 64 - 64 * k = 64 := by omega
      have f9 : 64 * k + 64 ≤ cap := by omega
      have fb : (k : Int) < (n : Int) := by omega
      have GC : Hid (n ≤ cs) := by show n ≤ cs; rw [← hL.len]; exact hgc
      clear hL hX hcur hge hgc
      go_wp2_with fail
      go_region_held3 (fun w' => w'.cell? ⟨br, 0, none⟩ = some (.slice (some ⟨g, 0, none⟩) n cs)) (first | assumption | go_keep) (first
        | (go_at_call 38; refine (rsector_any _ _ _ X _ XL.out.symm ?_ (by rw [XL.out]; decide)).mono ?_; exact IW.out; rintro e w2 ⟨rfl, r2, b2⟩; have B2 : Hid (Below wr.heap.size wr w2) := ⟨b2.os, b2.tape, b2.output, b2.size, b2.block⟩; have s2 : w2.cell? ⟨br, 0, none⟩ = some (.slice (some ⟨g, 0, none⟩) n cs) := (B2.out.cell (p := ⟨br, 0, none⟩) hbw).trans k0; have t2 : w2.cell? ⟨g, k, none⟩ = some (secV y) := (B2.out.cell (p := ⟨g, k, none⟩) hgw).trans hgy; have u2 : w2.frozen? ⟨g, k, none⟩ = false := (B2.out.frozen (p := ⟨g, k, none⟩) hgw).trans hgz; have s3 : (w2.setCell ⟨g, k, none⟩ (.slice (some ⟨wr.heap.size, 0, none⟩) 64 64)).cell? ⟨br, 0, none⟩ = some (.slice (some ⟨g, 0, none⟩) n cs) := (World.cell?_of_block (set_else w2 g k _ br hne)).trans s2; have R2 : Hid (RowB w2 wr.heap.size 5 (secL X)) := r2; clear b2 r2))
      have NX : Hid (Laying2 l w (w2.setCell ⟨g, k, none⟩ (.slice (some ⟨wr.heap.size, 0, none⟩) 64 64)) br n (k + 1) (some ⟨g, 0, none⟩) cs (gs.set k wr.heap.size)) := by
        have hcur2 : w2.heap[g]? = some (.cells cur 22 (0, 0)) := by rw [B2.out.block g hgw]; exact SL.out.2
        refine ⟨by rw [List.length_set]; exact HL2.out.len, ?_, ?_, fun i hi => ?_, ?_⟩
        · rw [set_else w2 g k _ br hne, B2.out.block br hbw]; exact HL2.out.box
        · have h2 : RowG w2 w.heap.size (some ⟨g, 0, none⟩) gs cs := owns_keepK (K := fun _ => true) HL2.out.sure (fun _ => rfl) (fun i o ho _ => by rw [B2.out.block i (Array.getElem?_eq_some_iff.1 ho).1]; exact ho)
          exact h2.set (by rw [HL2.out.len]; exact hlt)
        · rw [List.length_set] at hi
          rw [List.getElem_set]
          split
          · rename_i e
            subst e
            have e2 : (layK l (k + 1)).sure k = secL X := by
              show (if k < k + 1 then (l.drop (64 * k)).take 64 else zeros) = _
              rw [if_pos (by omega), HXX.out, secL_full XL.out]
            rw [e2]
            exact R2.out.else' hcur2 (by decide) (set_else w2 g k _)
          · rename_i e
            have e2 : (layK l (k + 1)).sure i = (layK l k).sure i := by
              show (if i < k + 1 then _ else _) = (if i < k then _ else _)
              by_cases h : i < k
              · rw [if_pos h, if_pos (by omega)]
              · rw [if_neg h, if_neg (by omega)]
            rw [e2]
            exact ((HL2.out.secs i hi).keep B2.out).else' hcur2 (by decide) (set_else w2 g k _)
        · exact (HL2.out.below.trans (B2.out.mono HL2.out.below.size)).trans ((Only.set g k _ w2).below SL.out.1)
      clear s2 s3 t2 u2
      go_wp2
      go_roundw
      case rel => exact ⟨k + 1, _, by omega, by go_num, NX.out⟩
      case measure => simp [intOf]; omega
    · obtain rfl : k = n := by omega
      clear hL
      go_wp2
      go_ret2
      refine ⟨br, rfl, ⟨as0, cs, gs, none, 0, [], ⟨by rw [HL2.out.len]; exact HL2.out.box, HL2.out.sure, rowQ_nil _ _, by rw [HL2.out.len]; exact EN.out.symm, rfl, fun i hi => ⟨?_, trivial⟩, fun k hk => by (simp at hk), GB.out⟩, OKL.out⟩, HL2.out.below⟩
      have e := HL2.out.secs i hi
      have e2 : (layK l k).sure i = (layD l).sure i := if_pos (by rw [HL2.out.len] at hi; exact hi)
      rw [e2] at e
      exact e
end Go.Proofs.YtgmmgklcndnehaaDoor
