/- What the document's Lay answers. -/
import Derived.Test.YtddkmmkhlfjhiaaDkW
namespace Go.Proofs.Ytddkmmkhlfjhiaa
open Go.RowKit Go.Maps
set_option linter.unusedVariables false

theorem rlay_odd (a : Option Addr) (n cap : Nat) (w : World) (h : n % 64 ≠ 0) (hn : n ≤ maxLen) :
    Calls Try.prog 32 #[.slice a n cap] w fun e w' => e = .returned (.tuple #[.pointer none, .int .i64 2]) ∧ w = w' := by
  unfold maxLen at hn
  have tm : ((n : Int).tmod 64 == 0) = false := by
    rw [Int.tmod_eq_emod_of_nonneg (by omega)]; simp; omega
  have tm2 : ¬ (n : Int).tmod 64 = 0 := by rw [Int.tmod_eq_emod_of_nonneg (by omega)]; omega
  go_enter Try.func32, Try.ntmps32
  go_wp2
  go_ret2
  exact ⟨rfl, rfl⟩
theorem rlay_few (a : Option Addr) (n cap : Nat) (w : World) (h : n % 64 = 0) (hn : n ≤ maxLen) (hr : n / 64 < 8 ∨ 65536 < n / 64) :
    Calls Try.prog 32 #[.slice a n cap] w fun e w' => e = .returned (.tuple #[.pointer none, .int .i64 2]) ∧ w = w' := by
  unfold maxLen at hn
  have tm : (n : Int).tmod 64 = 0 := by rw [Int.tmod_eq_emod_of_nonneg (by omega)]; omega
  have td : (n : Int).tdiv 64 = ((n / 64 : Nat) : Int) := by rw [Int.tdiv_eq_ediv_of_nonneg (by omega)]; omega
  have N : Hid (((n / 64 : Nat) : Int) < 8 ∨ 65536 < ((n / 64 : Nat) : Int)) := by rcases hr with h | h; exact .inl (by omega); exact .inr (by omega)
  obtain ⟨k, hk⟩ : ∃ k, n / 64 = k := ⟨_, rfl⟩
  rw [hk] at td N
  have wk := wrap_i64 (x := (k : Int)) (by omega)
  clear hr hk h
  go_enter Try.func32, Try.ntmps32
  go_wp2_with (go_at_call 12; refine (rnew_else (k : Int) _ N.out).mono ?_; rintro e w' ⟨rfl, rfl⟩)
  go_ret2
  exact ⟨rfl, rfl⟩

/-- Under way: the document's disk, its sectors whatever. -/
structure Laying (w wr : World) (br n : Nat) (as0 : Option Addr) (cs : Nat) (gs : List Nat) : Prop where
  len : gs.length = n
  box : wr.heap[br]? = some (.cells (rboxC as0 n cs none 0 0 (newD 0)) 51 (0, 0))
  sure : RowG wr w.heap.size as0 gs cs
  below : Below w.heap.size w wr

set_option maxHeartbeats 8000000 in
theorem rlay_fit (a : Option Addr) (cap : Nat) (l : List Int) (w : World) (hB : IsB w a l) (h : l.length % 64 = 0) (h8 : 8 ≤ l.length / 64) (h6 : l.length / 64 ≤ 65536) (hc : l.length ≤ cap) (hcm : cap ≤ maxLen) :
    Calls Try.prog 32 #[.slice a l.length cap] w fun e w' => ∃ br as0 cs, e = .returned (.tuple #[.pointer (some ⟨br, 0, none⟩), .int .i64 0]) ∧ w'.heap[br]? = some (.cells (rboxC as0 (l.length / 64) cs none 0 0 (newD 0)) 51 (0, 0)) ∧ Below w.heap.size w w' := by
  unfold maxLen at hcm
  have tm : (l.length : Int).tmod 64 = 0 := by rw [Int.tmod_eq_emod_of_nonneg (by omega)]; omega
  have td : (l.length : Int).tdiv 64 = ((l.length / 64 : Nat) : Int) := by rw [Int.tdiv_eq_ediv_of_nonneg (by omega)]; omega
  have HB : Hid (IsB w a l) := hB
  obtain ⟨_, rfl | ⟨ib, io, rfl, hib, _⟩⟩ := hB
  · simp at h8
  obtain ⟨n, hn⟩ : ∃ n, l.length / 64 = n := ⟨_, rfl⟩
  have EN : Hid (l.length / 64 = n) := hn
  have hl : l.length = 64 * n := by omega
  have HL : Hid (l.length = 64 * n) := hl
  rw [hn] at td h8 h6 ⊢
  have wk := wrap_i64 (x := (n : Int)) (by omega)
  clear hn h
  go_enter Try.func32, Try.ntmps32
  go_wp2_with fail
  refine (rnew_fit n w h8 h6).mono ?_
  rintro e w1 ⟨as0, cs, gs0, rfl, hM⟩
  obtain ⟨br, hbr⟩ : ∃ br, w.heap.size = br := ⟨_, rfl⟩
  have L1 : Hid (Laying w w1 br n as0 cs gs0) := ⟨hM.len, by rw [← hbr]; have := hM.box; rwa [hM.len] at this, hM.sure, hM.below⟩
  have GB : Hid (w.heap.size ≤ br) := by show _ ≤ _; omega
  have k0 : w1.cell? ⟨br, 0, none⟩ = some (.slice as0 n cs) := cell_of_row _ _ _ _ _ _ L1.out.box
  rw [hbr]
  clear hM hbr
  go_wp2
  go_loopw [26] (fun iv wr => ∃ (k : Nat) (gs : List Nat), k ≤ n ∧ iv = .int .i64 (k : Nat) ∧ Laying w wr br n as0 cs gs) (fun iv _ => n - (intOf iv).toNat)
  case atStart => exact ⟨0, gs0, Nat.zero_le _, rfl, L1.out⟩
  case round =>
    clear L1 k0
    obtain ⟨k, gs, hk, rfl, hL⟩ := hrel
    rename World => wr
    have HL2 : Hid (Laying w wr br n as0 cs gs) := hL
    by_cases hlt : k < n
    · have k0 : wr.cell? ⟨br, 0, none⟩ = some (.slice as0 n cs) := cell_of_row _ _ _ _ _ _ hL.box
      have hbw : br < wr.heap.size := (Array.getElem?_eq_some_iff.1 hL.box).1
      obtain ⟨g, rfl, hge, hgc, ⟨cur, hcur⟩, hgk, hgz⟩ := hL.sure.cell (i := k) (by rw [hL.len]; exact hlt)
      obtain ⟨y, hgy⟩ : ∃ y, wr.cell? ⟨g, k, none⟩ = some (secV y) := ⟨_, hgk⟩
      clear hgk
      have hgw : g < wr.heap.size := (Array.getElem?_eq_some_iff.1 hcur).1
      have hne : br ≠ g := by rintro rfl; rw [hL.box] at hcur; simp at hcur
      have SL : Hid (w.heap.size ≤ g ∧ wr.heap[g]? = some (.cells cur 32 (0, 0))) := ⟨hge, hcur⟩
      obtain ⟨X, hX⟩ : ∃ X, (l.drop (64 * k)).take 64 = X := ⟨_, rfl⟩
      have XL : Hid (X.length = 64) := by show _ = _; rw [← hX]; simp; omega
      have IW : Hid (IsB wr (some ⟨ib, io + 64 * k, none⟩) X) := by
        have := IsB.part (HB.out.keep hL.below) (64 * k) 64 rfl
        rw [hX] at this
        exact this
      have w1' := wrap_i64 (x := 64 * (k : Int)) (by omega)
      have w2' := wrap_i64 (x := 64 * (k : Int) + 64) (by omega)
      have f1 : (0 : Int) ≤ 64 * (k : Int) := by omega
      have f2 : 64 * (k : Int) ≤ 64 * (k : Int) + 64 := by omega
      have f3 : 64 * (k : Int) + 64 ≤ (cap : Int) := by omega
      have f4 : ¬ cap = 64 * k := by omega
      have f5 : (64 * (k : Int)).toNat = 64 * k := by omega
      have f6 : (64 * (k : Int) + 64).toNat = 64 * k + 64 := by omega
      have f7 : (0 : Int) ≤ 64 * (k : Int) + 64 := by omega
      have f8 : 64 * k + 64 - 64 * k = 64 := by omega
      have f9 : 64 * k + 64 ≤ cap := by omega
      have fb : (k : Int) < (n : Int) := by omega
      have GC : Hid (n ≤ cs) := by show n ≤ cs; rw [← hL.len]; exact hgc
      clear hL hX hcur hge hgc
      go_wp2_with fail
      go_region_held3 (fun w' => w'.cell? ⟨br, 0, none⟩ = some (.slice (some ⟨g, 0, none⟩) n cs)) (first | assumption | go_keep) (first
        | (go_at_call 34; refine (rsector_any _ _ _ X _ XL.out.symm ?_ (by rw [XL.out]; decide)).mono ?_; exact IW.out; rintro e w2 ⟨rfl, r2, b2⟩; have B2 : Hid (Below wr.heap.size wr w2) := ⟨b2.os, b2.tape, b2.output, b2.size, b2.block⟩; have s2 : w2.cell? ⟨br, 0, none⟩ = some (.slice (some ⟨g, 0, none⟩) n cs) := (B2.out.cell (p := ⟨br, 0, none⟩) hbw).trans k0; have t2 : w2.cell? ⟨g, k, none⟩ = some (secV y) := (B2.out.cell (p := ⟨g, k, none⟩) hgw).trans hgy; have u2 : w2.frozen? ⟨g, k, none⟩ = false := (B2.out.frozen (p := ⟨g, k, none⟩) hgw).trans hgz; have s3 : (w2.setCell ⟨g, k, none⟩ (.slice (some ⟨wr.heap.size, 0, none⟩) 64 64)).cell? ⟨br, 0, none⟩ = some (.slice (some ⟨g, 0, none⟩) n cs) := (World.cell?_of_block (set_else w2 g k _ br hne)).trans s2; clear b2 r2))
      have NX : Hid (Laying w (w2.setCell ⟨g, k, none⟩ (.slice (some ⟨wr.heap.size, 0, none⟩) 64 64)) br n (some ⟨g, 0, none⟩) cs (gs.set k wr.heap.size)) := by
        refine ⟨by rw [List.length_set]; exact HL2.out.len, ?_, ?_, ?_⟩
        · rw [set_else w2 g k _ br hne, B2.out.block br hbw]; exact HL2.out.box
        · have h2 : RowG w2 w.heap.size (some ⟨g, 0, none⟩) gs cs := owns_keepK (K := fun _ => true) HL2.out.sure (fun _ => rfl) (fun i o ho _ => by rw [B2.out.block i (Array.getElem?_eq_some_iff.1 ho).1]; exact ho)
          exact h2.set (by rw [HL2.out.len]; exact hlt)
        · exact (HL2.out.below.trans (B2.out.mono HL2.out.below.size)).trans ((Only.set g k _ w2).below SL.out.1)
      clear s2 s3 t2 u2
      go_wp2
      go_roundw
      case rel => exact ⟨k + 1, _, by omega, by go_num, NX.out⟩
      case measure => simp [intOf]; omega
    · obtain rfl : k = n := by omega
      clear hL
      go_wp2
      go_ret2
      exact ⟨br, as0, cs, rfl, HL2.out.box, HL2.out.below⟩
end Go.Proofs.Ytddkmmkhlfjhiaa
