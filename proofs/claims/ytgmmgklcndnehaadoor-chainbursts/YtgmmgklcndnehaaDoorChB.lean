/- Layer 19: what a sector has of a chain (readSector). -/
import Derived.Test.YtgmmgklcndnehaaDoorChA
import Derived.Test.YtgmmgklcndnehaaDoorGzAB
import Derived.BigQuiet
namespace Go.Proofs.YtgmmgklcndnehaaDoor
open Go.RowKit
set_option linter.unusedVariables false
set_option maxRecDepth 4000

/-- The error of a data sector that wasn't read yet. -/
def rsE (d : Dk) (s : Int) (left : Nat) : Int :=
  if d.down = true then 14 else if sumOkC (readL d s) = false then 5 else if left ≤ 56 ∧ endOkC (readL d s) left = false then 4 else 0
theorem secE_of {d : Dk} {ss : List Int} {s : Int} {left : Nat} (h : ¬ s ∈ ss) (h1 : 1 ≤ s) (h2 : s ≤ (d.n : Int) - 2) : secE d ss s left = rsE d s left := by
  unfold secE rsE
  rw [if_neg (fun q => q.elim h (fun q => q ⟨h1, h2⟩))]
theorem secE_bad {d : Dk} {ss : List Int} {s : Int} {left : Nat} (h : s ∈ ss ∨ ¬ (1 ≤ s ∧ s ≤ (d.n : Int) - 2)) : secE d ss s left = 4 := if_pos h

theorem get_q (a : Option Addr) (cap n : Nat) (l : List Int) (v : Int) (w : World) (hn : n = l.length) (hv : getL (l.take 8) = v) (h : IsB w a l) (hm : l.length ≤ maxLen) :
    Calls Tryd.prog 58 #[.slice a n cap] w fun e w' => e = .returned (.int .u64 v) ∧ w' = w := (get_of a cap n l v w hn hv h hm).mono (fun e w' q => ⟨q.1, q.2.symm⟩)
theorem sum_q (a : Option Addr) (cap n : Nat) (l : List Int) (v : Int) (w : World) (hn : n = l.length) (hv : sumI l = v) (h : IsB w a l) (hm : l.length ≤ maxLen) :
    Calls Tryd.prog 52 #[.slice a n cap] w fun e w' => e = .returned (.int .u32 v) ∧ w' = w := by
  subst hv
  exact (sum_of a cap n l w hn h hm).mono (fun e w' q => ⟨q.1, q.2.symm⟩)
theorem nought_q (a : Option Addr) (cap n : Nat) (l : List Int) (v : Bool) (w : World) (hn : n = l.length) (hv : (l.all fun c => decide (c = 0)) = v) (h : IsB w a l) (hm : l.length ≤ maxLen) :
    Calls Tryd.prog 59 #[.slice a n cap] w fun e w' => e = .returned (.bool v) ∧ w = w' := by subst hv; exact hnoughts_any a cap n l w hn h hm

theorem belowDN {N : Nat} {w w' : World} (h : Below N w w') (m : Nat) : Below N w (w'.drewN m) := ⟨h.os, h.tape, h.output, h.size, h.block⟩
theorem rowDN {g : Nat} {t : TypeId} {l : List Int} {w : World} (h : RowB w g t l) (m : Nat) : RowB (w.drewN m) g t l := h
/-- What readSector answers. -/
def RsP (w : World) (d : Dk) (s : Int) (left : Nat) (e : Ending) (w' : World) : Prop :=
  Below w.heap.size w w' ∧ ((rsE d s left ≠ 0 ∧ e = .returned (.tuple #[.slice none 0 0, .int .i64 0, .int .i64 (rsE d s left)])) ∨
    (rsE d s left = 0 ∧ e = .returned (.tuple #[.slice (some ⟨w.heap.size, 0, none⟩) (min left 56) 64, .int .i64 (nextC (readL d s)), .int .i64 0]) ∧ RowB w' w.heap.size 85 (readL d s)))
theorem RsP.bad {w w' : World} {d : Dk} {s : Int} {left : Nat} {e : Ending} {x : Int} (hx : rsE d s left = x) (h0 : x ≠ 0) (b : Below w.heap.size w w') (he : e = .returned (.tuple #[.slice none 0 0, .int .i64 0, .int .i64 x])) : RsP w d s left e w' := by
  subst hx
  exact ⟨b, .inl ⟨h0, he⟩⟩

set_option maxRecDepth 20000 in
set_option maxHeartbeats 8000000 in
theorem hrs_down (base b m : Nat) (d : Dk) (s : Int) (left : Nat) (w : World) (h : IsD w base b m d) (hd : d.down = true) :
    Calls Tryd.prog 46 #[.pointer (some ⟨b, 0, none⟩), .int .i64 s, .int .i64 (left : Nat)] w (RsP w d s left) := by
  have E : closedE d s = 14 := by unfold closedE; rw [if_pos hd]
  have RD : Hid (Calls Tryd.prog 57 #[.pointer (some ⟨b, 0, none⟩), .int .i64 s] w fun e w' => e = .returned (.tuple #[.slice none 0 0, .int .i64 14]) ∧ w = w') := by
    have q := read_closed base b m d s w h (by rw [E]; decide)
    rw [E] at q; exact q
  have R : Hid (rsE d s left = 14) := if_pos hd
  clear hd E h
  go_enter Tryd.func46, Tryd.ntmps46
  go_wp2_with (go_at_call 57; refine Calls.mono RD.out ?_; rintro e w' ⟨rfl, rfl⟩)
  go_ret3
  exact RsP.bad R.out (by decide) (Below.refl _ _) rfl

set_option maxRecDepth 20000 in
set_option maxHeartbeats 8000000 in
theorem hrs_up (base b m : Nat) (d : Dk) (s : Int) (left : Nat) (w : World) (h : IsD w base b m d) (hd : d.down = false) (h1 : 1 ≤ s) (h2 : s ≤ (d.n : Int) - 2) (hl : 1 ≤ left) (hl2 : left ≤ 65542) :
    Calls Tryd.prog 46 #[.pointer (some ⟨b, 0, none⟩), .int .i64 s, .int .i64 (left : Nat)] w (RsP w d s left) := by
  have hc := closed_of h1 h2 hd
  obtain ⟨N, hN⟩ : ∃ N, w.heap.size = N := ⟨_, rfl⟩
  obtain ⟨B, hB⟩ : ∃ B, readL d s = B := ⟨_, rfl⟩
  obtain ⟨b64, bAll⟩ := readL_ok (i := s) h.ok hc
  rw [hB] at b64 bAll
  have RD : Hid (Calls Tryd.prog 57 #[.pointer (some ⟨b, 0, none⟩), .int .i64 s] w fun e w' => e = .returned (.tuple #[.slice (some ⟨N, 0, none⟩) 64 64, .int .i64 0]) ∧ RowB w' N 85 B ∧ Below N w w') := by
    have q := read_open base b m d s w h hc
    rw [hB, hN] at q; exact q
  have R : rsE d s left = if sumOkC B = false then 5 else if left ≤ 56 ∧ endOkC B left = false then 4 else 0 := by unfold rsE; rw [hB, if_neg (by rw [hd]; decide)]
  have BAD : Hid (∀ (x : Int) (w' : World), rsE d s left = x → x ≠ 0 → Below N w w' → RsP w d s left (.returned (.tuple #[.slice none 0 0, .int .i64 0, .int .i64 x])) w') := fun x w' hx h0 bb => RsP.bad hx h0 (by rw [hN]; exact bb) rfl
  have GOOD : Hid (∀ w', rsE d s left = 0 → Below N w w' → RowB w' N 85 B → RsP w d s left (.returned (.tuple #[.slice (some ⟨N, 0, none⟩) (min left 56) 64, .int .i64 (nextC B), .int .i64 0])) w') := fun w' hx bb rr => by
    refine ⟨by rw [hN]; exact bb, .inr ⟨hx, ?_, ?_⟩⟩
    · rw [hN, hB]
    · rw [hN, hB]; exact rr
  obtain ⟨v, hv⟩ : ∃ v, getL (B.drop 60) = v := ⟨_, rfl⟩
  obtain ⟨S, hS⟩ : ∃ S, sumI (B.take 60) = S := ⟨_, rfl⟩
  obtain ⟨nx, hnx⟩ : ∃ nx, nextC B = nx := ⟨_, rfl⟩
  obtain ⟨nx0, nx1⟩ := nextC_bd bAll
  rw [hnx] at nx0 nx1
  obtain ⟨s0, s1⟩ := sumI_bd (bAll.take 60)
  rw [hS] at s0 s1
  have wS : IntKind.u64.wrap S = S := by rw [IntKind.wrap_u64]; omega
  have wN : IntKind.i64.wrap nx = nx := by rw [IntKind.wrap_i64]; omega
  have LA : Hid (4 = (B.drop 60).length) := by show _ = _; simp [b64]
  have LB : Hid (60 = (B.take 60).length) := by show _ = _; simp [b64]
  have LC : Hid (4 = ((B.drop 56).take 4).length) := by show _ = _; simp [b64]
  have VA : Hid (getL ((B.drop 60).take 8) = v) := by show _ = _; rw [List.take_of_length_le (by simp [b64])]; exact hv
  have VB : Hid (sumI (B.take 60) = S) := hS
  have VC : Hid (getL (((B.drop 56).take 4).take 8) = nx) := by
    show _ = _
    rw [List.take_of_length_le (by simp [b64]), ← hnx, nextC, List.drop_take]
  have IA : Hid (∀ w', RowB w' N 85 B → IsB w' (some ⟨N, 60, none⟩) (B.drop 60)) := fun w' r => by
    have q := (r.isB bAll).part 60 4 rfl
    rw [List.take_of_length_le (by simp [b64])] at q
    simpa using q
  have IB : Hid (∀ w', RowB w' N 85 B → IsB w' (some ⟨N, 0, none⟩) (B.take 60)) := fun w' r => by
    have q := (r.isB bAll).part 0 60 rfl
    simpa using q
  have IC : Hid (∀ w', RowB w' N 85 B → IsB w' (some ⟨N, 56, none⟩) ((B.drop 56).take 4)) := fun w' r => by
    have q := (r.isB bAll).part 56 4 rfl
    simpa using q
  have ML : ∀ l : List Int, l.length ≤ 64 → l.length ≤ maxLen := fun l hl => by unfold maxLen; omega
  have MA : Hid ((B.drop 60).length ≤ maxLen) := ML _ (by simp [b64])
  have MB : Hid ((B.take 60).length ≤ maxLen) := ML _ (by simp [b64])
  have MC : Hid (((B.drop 56).take 4).length ≤ maxLen) := ML _ (by simp [b64])
  have hSO : sumOkC B = decide (v = S) := by unfold sumOkC; rw [hv, hS]
  rw [hSO] at R
  have hEO : endOkC B left = (decide (nx = 0) && ((B.take 56).drop left).all (fun c => decide (c = 0))) := by unfold endOkC; rw [hnx]
  clear hv hS ML hSO
  by_cases hvs : v = S
  · rw [decide_eq_true hvs, if_neg (by decide)] at R
    subst hvs
    by_cases hle : left ≤ 56
    · obtain ⟨z, hz⟩ : ∃ z, ((B.take 56).drop left).all (fun c => decide (c = 0)) = z := ⟨_, rfl⟩
      rw [hz] at hEO
      have LD : Hid (56 - left = ((B.take 56).drop left).length) := by show _ = _; simp [b64]
      have ID : Hid (∀ w', RowB w' N 85 B → IsB w' (some ⟨N, left, none⟩) ((B.take 56).drop left)) := fun w' r => by
        have q := (r.isB bAll).part left (56 - left) rfl
        rw [← List.drop_take] at q
        simpa [show left + (56 - left) = 56 by omega] using q
      have MD : Hid (((B.take 56).drop left).length ≤ maxLen) := by show _ ≤ _; rw [← LD.out]; unfold maxLen; omega
      have VD : Hid (((B.take 56).drop left).all (fun c => decide (c = 0)) = z) := hz
      have hle' : (left : Int) ≤ 56 := by omega
      have emin : min left 56 = left := Nat.min_eq_left hle
      rw [emin, hnx] at GOOD
      by_cases hn0 : nx = 0
      · subst hn0
        rw [decide_eq_true rfl, Bool.true_and] at hEO
        cases z
        · rw [if_pos ⟨hle, hEO⟩] at R
          have RR : Hid (rsE d s left = 4) := R
          clear R hEO hz hnx hB hN b64 bAll h hc
          go_enter Tryd.func46, Tryd.ntmps46
          go_wp2_with (go_at_call 57; refine Calls.mono RD.out ?_; rintro e w1 ⟨rfl, r1, b1⟩; have R1 : Hid (RowB w1 N 85 B) := r1; have B1 : Hid (Below N w w1) := b1; clear r1 b1)
          go_quiet (first | (go_at_call 58; exact Calls.quiet_of_same (get_q _ _ _ _ v _ LA.out VA.out ((IA.out _ R1.out).drewN _) MA.out)) | (go_at_call 52; exact Calls.quiet_of_same (sum_q _ _ _ _ v _ LB.out VB.out ((IB.out _ R1.out).drewN _) MB.out)))
          go_wp2_with (first
            | (go_at_call 58; refine (get_of _ _ _ _ 0 _ LC.out VC.out ((IC.out _ R1.out).drewN _) MC.out).mono ?_; rintro e w' ⟨rfl, rfl⟩)
            | (go_at_call 59; refine (nought_q _ _ _ _ false _ LD.out VD.out ((ID.out _ R1.out).drewN _) MD.out).mono ?_; rintro e w' ⟨rfl, rfl⟩))
          go_ret3
          exact BAD.out 4 _ RR.out (by decide) (belowDN B1.out _)
        · rw [if_neg (by rw [hEO]; simp)] at R
          have RR : Hid (rsE d s left = 0) := R
          clear R hEO hz hnx hB hN b64 bAll h hc
          go_enter Tryd.func46, Tryd.ntmps46
          go_wp2_with (go_at_call 57; refine Calls.mono RD.out ?_; rintro e w1 ⟨rfl, r1, b1⟩; have R1 : Hid (RowB w1 N 85 B) := r1; have B1 : Hid (Below N w w1) := b1; clear r1 b1)
          go_quiet (first | (go_at_call 58; exact Calls.quiet_of_same (get_q _ _ _ _ v _ LA.out VA.out ((IA.out _ R1.out).drewN _) MA.out)) | (go_at_call 52; exact Calls.quiet_of_same (sum_q _ _ _ _ v _ LB.out VB.out ((IB.out _ R1.out).drewN _) MB.out)))
          go_wp2_with (first
            | (go_at_call 58; refine (get_of _ _ _ _ 0 _ LC.out VC.out ((IC.out _ R1.out).drewN _) MC.out).mono ?_; rintro e w' ⟨rfl, rfl⟩)
            | (go_at_call 59; refine (nought_q _ _ _ _ true _ LD.out VD.out ((ID.out _ R1.out).drewN _) MD.out).mono ?_; rintro e w' ⟨rfl, rfl⟩))
          go_ret3
          exact GOOD.out _ RR.out (belowDN B1.out _) (rowDN R1.out _)
      · have hn1 : (nx != 0) = true := by rw [bne_iff_ne]; exact hn0
        rw [decide_eq_false hn0, Bool.false_and] at hEO
        rw [if_pos ⟨hle, hEO⟩] at R
        have RR : Hid (rsE d s left = 4) := R
        clear R hEO hz hnx hB hN b64 bAll h hc
        go_enter Tryd.func46, Tryd.ntmps46
        go_wp2_with (go_at_call 57; refine Calls.mono RD.out ?_; rintro e w1 ⟨rfl, r1, b1⟩; have R1 : Hid (RowB w1 N 85 B) := r1; have B1 : Hid (Below N w w1) := b1; clear r1 b1)
        go_quiet (first | (go_at_call 58; exact Calls.quiet_of_same (get_q _ _ _ _ v _ LA.out VA.out ((IA.out _ R1.out).drewN _) MA.out)) | (go_at_call 52; exact Calls.quiet_of_same (sum_q _ _ _ _ v _ LB.out VB.out ((IB.out _ R1.out).drewN _) MB.out)))
        go_wp2_with (first
          | (go_at_call 58; refine (get_of _ _ _ _ nx _ LC.out VC.out ((IC.out _ R1.out).drewN _) MC.out).mono ?_; rintro e w' ⟨rfl, rfl⟩)
          | (go_at_call 59; refine (nought_q _ _ _ _ z _ LD.out VD.out ((ID.out _ R1.out).drewN _) MD.out).mono ?_; rintro e w' ⟨rfl, rfl⟩))
        go_ret3
        exact BAD.out 4 _ RR.out (by decide) (belowDN B1.out _)
    · rw [if_neg (fun q => hle q.1)] at R
      have RR : Hid (rsE d s left = 0) := R
      have hle' : ¬ (left : Int) ≤ 56 := by omega
      have hle2 : (56 : Int) < left := by omega
      have emin : min left 56 = 56 := Nat.min_eq_right (by omega)
      rw [emin, hnx] at GOOD
      clear R hEO hnx hB hN b64 bAll h hc
      go_enter Tryd.func46, Tryd.ntmps46
      go_wp2_with (go_at_call 57; refine Calls.mono RD.out ?_; rintro e w1 ⟨rfl, r1, b1⟩; have R1 : Hid (RowB w1 N 85 B) := r1; have B1 : Hid (Below N w w1) := b1; clear r1 b1)
      go_quiet (first | (go_at_call 58; exact Calls.quiet_of_same (get_q _ _ _ _ v _ LA.out VA.out ((IA.out _ R1.out).drewN _) MA.out)) | (go_at_call 52; exact Calls.quiet_of_same (sum_q _ _ _ _ v _ LB.out VB.out ((IB.out _ R1.out).drewN _) MB.out)))
      go_wp2_with (first
        | (go_at_call 58; refine (get_of _ _ _ _ nx _ LC.out VC.out ((IC.out _ R1.out).drewN _) MC.out).mono ?_; rintro e w' ⟨rfl, rfl⟩))
      go_ret3
      exact GOOD.out _ RR.out (belowDN B1.out _) (rowDN R1.out _)
  · rw [decide_eq_false hvs, if_pos rfl] at R
    have RR : Hid (rsE d s left = 5) := R
    have hvs1 : (v != S) = true := by rw [bne_iff_ne]; exact hvs
    clear R hEO hnx hB hN b64 bAll h hc
    go_enter Tryd.func46, Tryd.ntmps46
    go_wp2_with (go_at_call 57; refine Calls.mono RD.out ?_; rintro e w1 ⟨rfl, r1, b1⟩; have R1 : Hid (RowB w1 N 85 B) := r1; have B1 : Hid (Below N w w1) := b1; clear r1 b1)
    go_quiet (first | (go_at_call 58; exact Calls.quiet_of_same (get_q _ _ _ _ v _ LA.out VA.out ((IA.out _ R1.out).drewN _) MA.out)) | (go_at_call 52; exact Calls.quiet_of_same (sum_q _ _ _ _ S _ LB.out VB.out ((IB.out _ R1.out).drewN _) MB.out)))
    go_wp2
    go_ret3
    exact BAD.out 5 _ RR.out (by decide) (belowDN B1.out _)
end Go.Proofs.YtgmmgklcndnehaaDoor
