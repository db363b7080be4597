/- Layer 19: the walk of ChainReads. -/
import Derived.Test.YtgmmgklcndnehaaDoorChV
import Derived.Test.YtgmmgklcndnehaaDoorChY
import Derived.Test.YtgmmgklcndnehaaDoorChH
import Derived.Test.YtgmmgklcndnehaaDoorDlC
namespace Go.Proofs.YtgmmgklcndnehaaDoor
open Go.RowKit Go.Maps
set_option linter.unusedVariables false
set_option maxRecDepth 4000

theorem rdG_ok {d : Dk} (hd : DkOk d) : ∀ (f : Nat) (bs ss : List Int) (s : Int) (left : Nat), AllB bs → (∀ x ∈ ss, -9223372036854775808 ≤ x ∧ x ≤ 9223372036854775807) → AllB (rdG d f bs ss s left).1 ∧ ∀ x ∈ (rdG d f bs ss s left).2.1, -9223372036854775808 ≤ x ∧ x ≤ 9223372036854775807
  | 0, _, _, _, _, _, _ => ⟨by (intro x hx; cases hx), by (intro x hx; cases hx)⟩
  | f + 1, bs, ss, s, left, hb, hs => by
    by_cases h0 : left = 0
    · subst h0; rw [rdG_end]; exact ⟨hb, hs⟩
    · by_cases he : secE d ss s left = 0
      · rw [rdG_go h0 he]
        obtain ⟨_, r1, r2, hdn, _, _⟩ := secE_zero he
        have few := hd.few
        refine rdG_ok hd f _ _ _ _ (hb.append ((readL_ok hd (closed_of r1 r2 hdn)).2.take _)) (fun x hx => ?_)
        rcases List.mem_append.1 hx with hx | hx
        · exact hs x hx
        · rw [List.mem_singleton.1 hx]; omega
      · rw [rdG_bad h0 he]
        exact ⟨by (intro x hx; cases hx), by (intro x hx; cases hx)⟩
theorem rdC_ok {d : Dk} (hd : DkOk d) (first n : Int) : AllB (rdC d first n).1 ∧ ∀ x ∈ (rdC d first n).2.1, -9223372036854775808 ≤ x ∧ x ≤ 9223372036854775807 := by
  unfold rdC
  split
  · exact rdG_ok hd _ _ _ _ _ (by intro x hx; cases hx) (by intro x hx; cases hx)
  · exact ⟨by (intro x hx; cases hx), by (intro x hx; cases hx)⟩
theorem rdG_len {d : Dk} (hd : DkOk d) : ∀ (f : Nat) (bs ss : List Int) (s : Int) (left : Nat), (rdG d f bs ss s left).2.1.length ≤ ss.length + f
  | 0, _, _, _, _ => by simp [rdG]
  | f + 1, bs, ss, s, left => by
    by_cases h0 : left = 0
    · subst h0; rw [rdG_end]; show ss.length ≤ _; omega
    · by_cases he : secE d ss s left = 0
      · rw [rdG_go h0 he]
        have := rdG_len hd f (bs ++ (readL d s).take (min left 56)) (ss ++ [s]) (nextC (readL d s)) (left - 56)
        rw [List.length_append] at this
        simp at this
        omega
      · rw [rdG_bad h0 he]; simp
theorem rdC_len {d : Dk} (hd : DkOk d) (first n : Int) : (rdC d first n).2.1.length ≤ 100000 := by
  unfold rdC
  split
  · rename_i h
    have := rdG_len hd (cntC n.toNat + 1) [] [] first n.toNat
    have h2 : cntC n.toNat + 1 ≤ 2000 := by unfold cntC; omega
    simp at this
    omega
  · simp
/-- The document's Read, of a disk. -/
theorem dread_any (base br : Nat) (ok : Nat → Prop) (d : Dk) (first n : Int) (w : World) (h : IsR w base br ok d) (hpl : d.pend.length ≤ 1000000) (hf : -9223372036854775808 ≤ first ∧ first ≤ 9223372036854775807) :
    Calls Tryd.prog 25 #[.pointer (some ⟨br, 0, none⟩), .int .i64 first, .int .i64 n] w (DrQ w (rdC d first n).1 (rdC d first n).2.1 (rdC d first n).2.2.1 (rdC d first n).2.2.2) := by
  unfold rdC
  by_cases hn : 1 ≤ n ∧ n ≤ 65542
  · rw [if_pos hn]
    obtain ⟨k, rfl⟩ : ∃ k : Nat, n = k := ⟨n.toNat, by omega⟩
    exact dread_go base br ok d first k _ _ _ _ w h hpl (by omega) (by omega) hf (by rw [Int.toNat_natCast])
  · rw [if_neg hn]
    exact dread_arg br first n w (by omega)
theorem flush_arm (l : List Int) : (flushD (armD (layD l) 1)).pend.length ≤ 900000 := by
  simp [armD, layD, flushD, workD]

set_option maxRecDepth 20000 in
set_option maxHeartbeats 8000000 in
theorem reads_few (a : Option Addr) (cap : Nat) (l : List Int) (first n : Int) (ar : Bool) (w : World) (hT : ErrT w) (hbc : l.length ≤ cap) (hcm : cap ≤ maxLen) (hm : 25600 < l.length ∨ ¬ (l.length % 64 = 0 ∧ 8 ≤ l.length / 64)) :
    Calls Tryd.prog 4 #[.agg #[.slice a l.length cap, .int .i64 first, .int .i64 n, .bool ar]] w fun e w' => e = .returned (.bool true) ∧ Below w.heap.size w w' := by
  obtain ⟨N, hN⟩ : ∃ N, w.heap.size = N := ⟨_, rfl⟩
  have HN : Hid (w.heap.size = N) := hN
  obtain ⟨w0, hw0⟩ : ∃ w0, w.alloc (.cells #[.slice a l.length cap, .int .i64 first, .int .i64 n, .bool ar] 42) = w0 := ⟨_, rfl⟩
  have HW0 : Hid (w.alloc (.cells #[.slice a l.length cap, .int .i64 first, .int .i64 n, .bool ar] 42) = w0) := hw0
  have r0 : w0.heap[N]? = some (.cells #[.slice a l.length cap, .int .i64 first, .int .i64 n, .bool ar] 42 (0, 0)) := by rw [← hw0, ← hN]; exact Go.heap_alloc_new w _
  have B0 : Hid (Below N w w0) := by show Below _ _ _; rw [← hw0, ← hN]; exact (Below.refl _ w).alloc (Nat.le_refl _) _
  have C0 : Hid (∀ w', Below w0.heap.size w0 w' → w'.cell? ⟨N, 0, none⟩ = some (.slice a l.length cap) ∧ w'.cell? ⟨N, 1, none⟩ = some (.int .i64 first) ∧ w'.cell? ⟨N, 2, none⟩ = some (.int .i64 n) ∧ w'.cell? ⟨N, 3, none⟩ = some (.bool ar)) := fun w' bb => by
    have q : w'.heap[N]? = _ := (bb.block N (Array.getElem?_eq_some_iff.1 r0).1).trans r0
    exact ⟨cell_of_row _ _ 0 _ _ _ q, cell_of_row _ _ 1 _ _ _ q, cell_of_row _ _ 2 _ _ _ q, cell_of_row _ _ 3 _ _ _ q⟩
  have T0 : Hid (ErrT w0) := hT.keep (by rw [hN]; exact B0.out)
  have N0 : Hid (N ≤ w0.heap.size) := by show _ ≤ _; have := B0.out.size; rw [hN] at this; exact this
  have AL : Hid (Calls Tryd.prog 8 #[] w0 fun e w' => e = .returned (.bool true) ∧ Below w0.heap.size w0 w') := alive19 _ T0.out
  have LA : Hid (¬ 25600 < l.length → ∀ w' : World, Calls Tryd.prog 18 #[.slice a l.length cap] w' fun e w2 => e = .returned (.tuple #[.pointer none, .int .i64 2]) ∧ w' = w2) := fun h25 w' => by
    by_cases h64 : l.length % 64 = 0
    · exact lay_few a _ cap w' h64 (Nat.le_trans hbc hcm) (.inl (by omega))
    · exact lay_odd a _ cap w' h64 (Nat.le_trans hbc hcm)
  have LR : Hid (¬ 25600 < l.length → ∀ w' : World, Calls Tryd.prog 19 #[.slice a l.length cap] w' fun e w2 => e = .returned (.tuple #[.pointer none, .int .i64 2]) ∧ w' = w2) := fun h25 w' => by
    by_cases h64 : l.length % 64 = 0
    · exact rlay_few a _ cap w' h64 (Nat.le_trans hbc hcm) (.inl (by omega))
    · exact rlay_odd a _ cap w' h64 (Nat.le_trans hbc hcm)
  clear hN hw0 r0 hT hm
  by_cases h25 : 25600 < l.length
  · have h25i : (25600 : Int) < (l.length : Int) := by omega
    go_enter Tryd.func4, Tryd.ntmps4
    go_wp2_with (go_at_call 8; rw [HW0.out, HN.out]; refine Calls.mono AL.out ?_; rintro e w1 ⟨rfl, b1⟩; obtain ⟨d0, d1, d2, d3⟩ := C0.out _ b1; have B1 : Hid (Below N w w1) := B0.out.trans (b1.mono N0.out); clear b1)
    go_quiet (fail)
    go_wp2
    go_ret
    exact ⟨rfl, by rw [HN.out]; exact belowDN B1.out _⟩
  · have h25i : ¬ (25600 : Int) < (l.length : Int) := by omega
    have L1 : Hid (∀ w' : World, Calls Tryd.prog 18 #[.slice a l.length cap] w' fun e w2 => e = .returned (.tuple #[.pointer none, .int .i64 2]) ∧ w' = w2) := LA.out h25
    have L2 : Hid (∀ w' : World, Calls Tryd.prog 19 #[.slice a l.length cap] w' fun e w2 => e = .returned (.tuple #[.pointer none, .int .i64 2]) ∧ w' = w2) := LR.out h25
    go_enter Tryd.func4, Tryd.ntmps4
    go_wp2_with (go_at_call 8; rw [HW0.out, HN.out]; refine Calls.mono AL.out ?_; rintro e w1 ⟨rfl, b1⟩; obtain ⟨d0, d1, d2, d3⟩ := C0.out _ b1; have B1 : Hid (Below N w w1) := B0.out.trans (b1.mono N0.out); clear b1)
    go_quiet (fail)
    go_wp2_with (first
      | (go_at_call 18; refine (L1.out _).mono ?_; rintro e w' ⟨rfl, rfl⟩)
      | (go_at_call 19; refine (L2.out _).mono ?_; rintro e w' ⟨rfl, rfl⟩))
    go_ret
    exact ⟨rfl, by rw [HN.out]; exact belowDN B1.out _⟩

set_option maxRecDepth 20000 in
set_option maxHeartbeats 8000000 in
theorem reads_fit_armed (a : Option Addr) (cap : Nat) (l : List Int) (first n : Int) (w : World) (hT : ErrT w) (hB : IsB w a l) (hbc : l.length ≤ cap) (hcm : cap ≤ maxLen) (hf : -9223372036854775808 ≤ first ∧ first ≤ 9223372036854775807) (h25 : l.length ≤ 25600) (h64 : l.length % 64 = 0) (h8 : 8 ≤ l.length / 64) :
    Calls Tryd.prog 4 #[.agg #[.slice a l.length cap, .int .i64 first, .int .i64 n, .bool true]] w fun e w' => e = .returned (.bool true) ∧ Below w.heap.size w w' := by
  obtain ⟨N, hN⟩ : ∃ N, w.heap.size = N := ⟨_, rfl⟩
  have HN : Hid (w.heap.size = N) := hN
  obtain ⟨w0, hw0⟩ : ∃ w0, w.alloc (.cells #[.slice a l.length cap, .int .i64 first, .int .i64 n, .bool true] 42) = w0 := ⟨_, rfl⟩
  have HW0 : Hid (w.alloc (.cells #[.slice a l.length cap, .int .i64 first, .int .i64 n, .bool true] 42) = w0) := hw0
  have r0 : w0.heap[N]? = some (.cells #[.slice a l.length cap, .int .i64 first, .int .i64 n, .bool true] 42 (0, 0)) := by rw [← hw0, ← hN]; exact Go.heap_alloc_new w _
  have B0 : Hid (Below N w w0) := by show Below _ _ _; rw [← hw0, ← hN]; exact (Below.refl _ w).alloc (Nat.le_refl _) _
  have C0 : Hid (∀ w', Below w0.heap.size w0 w' → w'.cell? ⟨N, 0, none⟩ = some (.slice a l.length cap) ∧ w'.cell? ⟨N, 1, none⟩ = some (.int .i64 first) ∧ w'.cell? ⟨N, 2, none⟩ = some (.int .i64 n) ∧ w'.cell? ⟨N, 3, none⟩ = some (.bool true)) := fun w' bb => by
    have q : w'.heap[N]? = _ := (bb.block N (Array.getElem?_eq_some_iff.1 r0).1).trans r0
    exact ⟨cell_of_row _ _ 0 _ _ _ q, cell_of_row _ _ 1 _ _ _ q, cell_of_row _ _ 2 _ _ _ q, cell_of_row _ _ 3 _ _ _ q⟩
  have HT : Hid (∀ w', Below N w w' → ErrT w') := fun w' bb => hT.keep (by rw [hN]; exact bb)
  have HBB : Hid (∀ w', Below N w w' → IsB w' a l) := fun w' bb => hB.keep (by rw [hN]; exact bb)
  have MT : Hid (∀ w2, Below N w w2 → N ≤ w2.heap.size) := fun w2 bb => by rw [← hN]; exact bb.size
  have AL : Hid (Calls Tryd.prog 8 #[] w0 fun e w' => e = .returned (.bool true) ∧ Below w0.heap.size w0 w') := alive19 _ (HT.out _ B0.out)
  obtain ⟨m, hm⟩ : ∃ m, l.length / 64 = m := ⟨_, rfl⟩
  have LA : Hid (∀ w', Below N w w' → Calls Tryd.prog 18 #[.slice a l.length cap] w' fun e w2 => ∃ b, e = .returned (.tuple #[.pointer (some ⟨b, 0, none⟩), .int .i64 0]) ∧ IsD w2 w'.heap.size b m (layD l) ∧ Below w'.heap.size w' w2) := fun w' bb => by
    rw [← hm]
    exact lay_fit w'.heap.size a cap l w' (HBB.out w' bb) h64 h8 (by omega) hbc hcm (Nat.le_refl _)
  have LR : Hid (∀ w', Below N w w' → Calls Tryd.prog 19 #[.slice a l.length cap] w' fun e w2 => ∃ br, e = .returned (.tuple #[.pointer (some ⟨br, 0, none⟩), .int .i64 0]) ∧ IsR w2 w'.heap.size br (fun _ => True) (layD l) ∧ Below w'.heap.size w' w2) := fun w' bb => rlay_all a cap l w' (HBB.out w' bb) h64 h8 (by omega) hbc hcm
  have OKD : Hid (DkOk (flushD (armD (layD l) 1))) := flushD_ok (armD_ok (layD_ok hB.1 (by omega)) (by decide))
  have M9 : Hid (m ≤ 900000) := by show _ ≤ _; omega
  have OPS : Hid ((armD (layD l) 1).ops ≤ 1000000000) := by show _ ≤ _; simp [armD, layD]
  have PL9 : Hid ((armD (layD l) 1).pend.length ≤ 900000) := by show _ ≤ _; simp [armD, layD]
  have PLD : Hid ((flushD (armD (layD l) 1)).pend.length ≤ 1000000) := by show _ ≤ _; have := flush_arm l; omega
  obtain ⟨bs, hbs⟩ : ∃ x, (rdC (flushD (armD (layD l) 1)) first n).1 = x := ⟨_, rfl⟩
  obtain ⟨ss, hss⟩ : ∃ x, (rdC (flushD (armD (layD l) 1)) first n).2.1 = x := ⟨_, rfl⟩
  obtain ⟨c, hc⟩ : ∃ x, (rdC (flushD (armD (layD l) 1)) first n).2.2.1 = x := ⟨_, rfl⟩
  obtain ⟨at9, hat⟩ : ∃ x, (rdC (flushD (armD (layD l) 1)) first n).2.2.2 = x := ⟨_, rfl⟩
  obtain ⟨okb, oks⟩ := rdC_ok OKD.out first n
  have okl := rdC_len OKD.out first n
  rw [hbs] at okb
  rw [hss] at oks okl
  have OKB : Hid (AllB bs) := okb
  have OKS : Hid (∀ x ∈ ss, -9223372036854775808 ≤ x ∧ x ≤ 9223372036854775807) := oks
  have OKL : Hid (ss.length ≤ 100000) := okl
  have RD : Hid (∀ w' K b, IsD w' K b m (flushD (armD (layD l) 1)) → Calls Tryd.prog 24 #[.pointer (some ⟨b, 0, none⟩), .int .i64 first, .int .i64 n] w' (RdQ w' bs ss c at9)) := fun w' K b hD => by
    have q := hread_any K b m (flushD (armD (layD l) 1)) first n w' hD hf
    rw [hbs, hss, hc, hat] at q; exact q
  have DD : Hid (∀ w' K br, IsR w' K br (fun _ => True) (flushD (armD (layD l) 1)) → Calls Tryd.prog 25 #[.pointer (some ⟨br, 0, none⟩), .int .i64 first, .int .i64 n] w' (DrQ w' bs ss c at9)) := fun w' K br hR => by
    have q := dread_any K br (fun _ => True) (flushD (armD (layD l) 1)) first n w' hR PLD.out hf
    rw [hbs, hss, hc, hat] at q; exact q
  have h25i : ¬ (25600 : Int) < (l.length : Int) := by omega
  have N0 : Hid (N ≤ w0.heap.size) := MT.out _ B0.out
  clear hN hw0 r0 hT hB hm hbs hss hc hat okb oks okl h25 h64 h8
  go_enter Tryd.func4, Tryd.ntmps4
  go_wp2_with (go_at_call 8; rw [HW0.out, HN.out]; refine Calls.mono AL.out ?_; rintro e w1 ⟨rfl, b1⟩; obtain ⟨d0, d1, d2, d3⟩ := C0.out _ b1; have B1 : Hid (Below N w w1) := B0.out.trans (b1.mono N0.out); clear b1)
  go_quiet (fail)
  have BQ : Hid (Below N w (w1.drewN nq)) := belowDN B1.out _
  go_wp2_with (first
    | (go_at_call 18; refine (LA.out _ BQ.out).mono ?_; rintro e w2 ⟨b, rfl, d2', b2⟩; obtain ⟨K, hK⟩ : ∃ K, (w1.drewN nq).heap.size = K := ⟨_, rfl⟩; have NK : Hid (N ≤ K) := (by show _ ≤ _; rw [← hK]; exact MT.out _ BQ.out); rw [hK] at d2' b2; have D2 : Hid (IsD w2 K b m (layD l)) := d2'; have B2 : Hid (Below N w w2) := BQ.out.trans (b2.mono NK.out); have K2' : Hid (K ≤ w2.heap.size) := (by show _ ≤ _; rw [← hK]; rw [← hK] at b2; exact b2.size); clear d2' b2 hK)
    | (go_at_call 19; refine (LR.out _ B2.out).mono ?_; rintro e w3 ⟨br, rfl, r3, b3⟩; obtain ⟨K2, hK2⟩ : ∃ K, w2.heap.size = K := ⟨_, rfl⟩; have D3 : Hid (IsD w3 K b m (layD l)) := D2.out.keep b3; have NK2 : Hid (N ≤ K2) := (by show _ ≤ _; rw [← hK2]; exact MT.out _ B2.out); have K3 : Hid (K ≤ w3.heap.size) := Nat.le_trans K2'.out b3.size; have K23 : Hid (K2 ≤ w3.heap.size) := (by show _ ≤ _; rw [← hK2]; exact b3.size); rw [hK2] at r3 b3; have R3 : Hid (IsR w3 K2 br (fun _ => True) (layD l)) := r3; have B3 : Hid (Below N w w3) := B2.out.trans (b3.mono NK2.out); clear r3 b3 hK2)
    | (go_at_call 20; refine (arm_any _ _ _ _ 1 _ D3.out (by decide)).mono ?_; rintro e w4 ⟨rfl, d4, t4⟩; have B4 : Hid (Below N w w4) := B3.out.trans ((t4.below K3.out).mono NK.out); have D4 : Hid (IsD w4 K b m (armD (layD l) 1)) := d4; have R4 : Hid (IsR w4 K2 br (fun _ => True) (layD l)) := R3.out.turn t4; have K4 : Hid (K ≤ w4.heap.size) := Nat.le_trans K3.out t4.size; have K24 : Hid (K2 ≤ w4.heap.size) := Nat.le_trans K23.out t4.size; clear d4 t4)
    | (go_at_call 21; refine (rarm_any _ _ _ _ 1 _ R4.out (by decide)).mono ?_; rintro e w5 ⟨rfl, r5, t5⟩; have B5 : Hid (Below N w w5) := B4.out.trans ((t5.below K24.out).mono NK2.out); have R5 : Hid (IsR w5 K2 br (fun _ => True) (armD (layD l) 1)) := r5; have D5 : Hid (IsD w5 K b m (armD (layD l) 1)) := D4.out.turnR t5; have K5 : Hid (K ≤ w5.heap.size) := Nat.le_trans K4.out t5.size; have K25 : Hid (K2 ≤ w5.heap.size) := Nat.le_trans K24.out t5.size; clear r5 t5)
    | (go_at_call 22; refine (flush_any _ _ _ _ _ D5.out K5.out M9.out OPS.out).mono ?_; rintro e w6 ⟨rfl, d6, t6⟩; have B6 : Hid (Below N w w6) := B5.out.trans ((t6.below K5.out).mono NK.out); have D6 : Hid (IsD w6 K b m (flushD (armD (layD l) 1))) := d6; have R6 : Hid (IsR w6 K2 br (fun _ => True) (armD (layD l) 1)) := R5.out.turn t6; have K26 : Hid (K2 ≤ w6.heap.size) := Nat.le_trans K25.out t6.size; clear d6 t6)
    | (go_at_call 23; refine (rflush_any _ _ _ _ _ R6.out K26.out (fun _ _ => trivial) OPS.out PL9.out).mono ?_; rintro e w7 ⟨rfl, r7, t7⟩; have B7 : Hid (Below N w w7) := B6.out.trans ((t7.below K26.out).mono NK2.out); have R7 : Hid (IsR w7 K2 br (fun _ => True) (flushD (armD (layD l) 1))) := r7; have D7 : Hid (IsD w7 K b m (flushD (armD (layD l) 1))) := D6.out.turnR t7; clear r7 t7)
    | (go_at_call 24; refine (RD.out _ _ _ D7.out).mono ?_; rintro e w8 ⟨ab, cb, as0, cs, ev, rfl, ob, oi, er, b8⟩; have OB : Hid (IsB w8 ab bs) := ownsB_isB OKB.out ob; have OI : Hid (IsI w8 as0 ss) := ownsI_isI OKS.out oi; have ER : Hid (ErrIs w8 ev c at9) := er; have R8 : Hid (IsR w8 K2 br (fun _ => True) (flushD (armD (layD l) 1))) := R7.out.keep b8; have B8 : Hid (Below N w w8) := B7.out.trans (b8.mono (MT.out _ B7.out)); clear ob oi er b8)
    | (go_at_call 25; refine (DD.out _ _ _ R8.out).mono ?_; rintro e w9 ⟨ab2, cb2, as2, cs2, rfl, ob, oi, b9⟩; have OB2 : Hid (IsB w9 ab2 bs) := ownsB_isB OKB.out ob; have OI2 : Hid (IsI w9 as2 ss) := ownsI_isI OKS.out oi; have OB9 : Hid (IsB w9 ab bs) := OB.out.keep b9; have OI9 : Hid (IsI w9 as0 ss) := OI.out.keep b9; have ER9 : Hid (ErrIs w9 ev c at9) := ER.out.keep b9; have B9 : Hid (Below N w w9) := B8.out.trans (b9.mono (MT.out _ B8.out)); clear ob oi b9)
    | (go_at_call 16; refine (same_true _ _ _ _ _ _ bs _ OB9.out OB2.out rfl rfl).mono ?_; rintro e w' ⟨rfl, rfl⟩)
    | (go_at_call 17; refine (ints_same _ _ _ _ _ _ ss _ OI9.out OI2.out rfl rfl (by have := OKL.out; unfold maxLen; omega)).mono ?_; rintro e w10 ⟨rfl, b10⟩; have E10 : Hid (ErrIs w10 ev c at9) := ER9.out.keep b10; have B10 : Hid (Below N w w10) := B9.out.trans (b10.mono (MT.out _ B9.out)); clear b10)
    | (go_at_call 12; refine (code_any ev c at9 _ E10.out).mono ?_; rintro e w11 ⟨rfl, b11⟩; have E11 : Hid (ErrIs w11 ev c at9) := E10.out.keep b11; have B11 : Hid (Below N w w11) := B10.out.trans (b11.mono (MT.out _ B10.out)); clear b11)
    | (go_at_call 26; refine (sector_any ev c at9 _ E11.out (HT.out _ B11.out)).mono ?_; rintro e w12 ⟨rfl, b12⟩; have B12 : Hid (Below N w w12) := B11.out.trans (b12.mono (MT.out _ B11.out)); clear b12))
  go_ret
  exact ⟨rfl, by rw [HN.out]; exact B12.out⟩

set_option maxRecDepth 20000 in
set_option maxHeartbeats 8000000 in
theorem reads_fit_plain (a : Option Addr) (cap : Nat) (l : List Int) (first n : Int) (w : World) (hT : ErrT w) (hB : IsB w a l) (hbc : l.length ≤ cap) (hcm : cap ≤ maxLen) (hf : -9223372036854775808 ≤ first ∧ first ≤ 9223372036854775807) (h25 : l.length ≤ 25600) (h64 : l.length % 64 = 0) (h8 : 8 ≤ l.length / 64) :
    Calls Tryd.prog 4 #[.agg #[.slice a l.length cap, .int .i64 first, .int .i64 n, .bool false]] w fun e w' => e = .returned (.bool true) ∧ Below w.heap.size w w' := by
  obtain ⟨N, hN⟩ : ∃ N, w.heap.size = N := ⟨_, rfl⟩
  have HN : Hid (w.heap.size = N) := hN
  obtain ⟨w0, hw0⟩ : ∃ w0, w.alloc (.cells #[.slice a l.length cap, .int .i64 first, .int .i64 n, .bool false] 42) = w0 := ⟨_, rfl⟩
  have HW0 : Hid (w.alloc (.cells #[.slice a l.length cap, .int .i64 first, .int .i64 n, .bool false] 42) = w0) := hw0
  have r0 : w0.heap[N]? = some (.cells #[.slice a l.length cap, .int .i64 first, .int .i64 n, .bool false] 42 (0, 0)) := by rw [← hw0, ← hN]; exact Go.heap_alloc_new w _
  have B0 : Hid (Below N w w0) := by show Below _ _ _; rw [← hw0, ← hN]; exact (Below.refl _ w).alloc (Nat.le_refl _) _
  have C0 : Hid (∀ w', Below w0.heap.size w0 w' → w'.cell? ⟨N, 0, none⟩ = some (.slice a l.length cap) ∧ w'.cell? ⟨N, 1, none⟩ = some (.int .i64 first) ∧ w'.cell? ⟨N, 2, none⟩ = some (.int .i64 n) ∧ w'.cell? ⟨N, 3, none⟩ = some (.bool false)) := fun w' bb => by
    have q : w'.heap[N]? = _ := (bb.block N (Array.getElem?_eq_some_iff.1 r0).1).trans r0
    exact ⟨cell_of_row _ _ 0 _ _ _ q, cell_of_row _ _ 1 _ _ _ q, cell_of_row _ _ 2 _ _ _ q, cell_of_row _ _ 3 _ _ _ q⟩
  have HT : Hid (∀ w', Below N w w' → ErrT w') := fun w' bb => hT.keep (by rw [hN]; exact bb)
  have HBB : Hid (∀ w', Below N w w' → IsB w' a l) := fun w' bb => hB.keep (by rw [hN]; exact bb)
  have MT : Hid (∀ w2, Below N w w2 → N ≤ w2.heap.size) := fun w2 bb => by rw [← hN]; exact bb.size
  have AL : Hid (Calls Tryd.prog 8 #[] w0 fun e w' => e = .returned (.bool true) ∧ Below w0.heap.size w0 w') := alive19 _ (HT.out _ B0.out)
  obtain ⟨m, hm⟩ : ∃ m, l.length / 64 = m := ⟨_, rfl⟩
  have LA : Hid (∀ w', Below N w w' → Calls Tryd.prog 18 #[.slice a l.length cap] w' fun e w2 => ∃ b, e = .returned (.tuple #[.pointer (some ⟨b, 0, none⟩), .int .i64 0]) ∧ IsD w2 w'.heap.size b m (layD l) ∧ Below w'.heap.size w' w2) := fun w' bb => by
    rw [← hm]
    exact lay_fit w'.heap.size a cap l w' (HBB.out w' bb) h64 h8 (by omega) hbc hcm (Nat.le_refl _)
  have LR : Hid (∀ w', Below N w w' → Calls Tryd.prog 19 #[.slice a l.length cap] w' fun e w2 => ∃ br, e = .returned (.tuple #[.pointer (some ⟨br, 0, none⟩), .int .i64 0]) ∧ IsR w2 w'.heap.size br (fun _ => True) (layD l) ∧ Below w'.heap.size w' w2) := fun w' bb => rlay_all a cap l w' (HBB.out w' bb) h64 h8 (by omega) hbc hcm
  have OKD : Hid (DkOk (layD l)) := layD_ok hB.1 (by omega)
  have M9 : Hid (m ≤ 900000) := by show _ ≤ _; omega
  have OPS : Hid ((armD (layD l) 1).ops ≤ 1000000000) := by show _ ≤ _; simp [armD, layD]
  have PL9 : Hid ((armD (layD l) 1).pend.length ≤ 900000) := by show _ ≤ _; simp [armD, layD]
  have PLD : Hid ((layD l).pend.length ≤ 1000000) := by show _ ≤ _; simp [layD]
  obtain ⟨bs, hbs⟩ : ∃ x, (rdC (layD l) first n).1 = x := ⟨_, rfl⟩
  obtain ⟨ss, hss⟩ : ∃ x, (rdC (layD l) first n).2.1 = x := ⟨_, rfl⟩
  obtain ⟨c, hc⟩ : ∃ x, (rdC (layD l) first n).2.2.1 = x := ⟨_, rfl⟩
  obtain ⟨at9, hat⟩ : ∃ x, (rdC (layD l) first n).2.2.2 = x := ⟨_, rfl⟩
  obtain ⟨okb, oks⟩ := rdC_ok OKD.out first n
  have okl := rdC_len OKD.out first n
  rw [hbs] at okb
  rw [hss] at oks okl
  have OKB : Hid (AllB bs) := okb
  have OKS : Hid (∀ x ∈ ss, -9223372036854775808 ≤ x ∧ x ≤ 9223372036854775807) := oks
  have OKL : Hid (ss.length ≤ 100000) := okl
  have RD : Hid (∀ w' K b, IsD w' K b m (layD l) → Calls Tryd.prog 24 #[.pointer (some ⟨b, 0, none⟩), .int .i64 first, .int .i64 n] w' (RdQ w' bs ss c at9)) := fun w' K b hD => by
    have q := hread_any K b m (layD l) first n w' hD hf
    rw [hbs, hss, hc, hat] at q; exact q
  have DD : Hid (∀ w' K br, IsR w' K br (fun _ => True) (layD l) → Calls Tryd.prog 25 #[.pointer (some ⟨br, 0, none⟩), .int .i64 first, .int .i64 n] w' (DrQ w' bs ss c at9)) := fun w' K br hR => by
    have q := dread_any K br (fun _ => True) (layD l) first n w' hR PLD.out hf
    rw [hbs, hss, hc, hat] at q; exact q
  have h25i : ¬ (25600 : Int) < (l.length : Int) := by omega
  have N0 : Hid (N ≤ w0.heap.size) := MT.out _ B0.out
  clear hN hw0 r0 hT hB hm hbs hss hc hat okb oks okl h25 h64 h8
  go_enter Tryd.func4, Tryd.ntmps4
  go_wp2_with (go_at_call 8; rw [HW0.out, HN.out]; refine Calls.mono AL.out ?_; rintro e w1 ⟨rfl, b1⟩; obtain ⟨d0, d1, d2, d3⟩ := C0.out _ b1; have B1 : Hid (Below N w w1) := B0.out.trans (b1.mono N0.out); clear b1)
  go_quiet (fail)
  have BQ : Hid (Below N w (w1.drewN nq)) := belowDN B1.out _
  go_wp2_with (first
    | (go_at_call 18; refine (LA.out _ BQ.out).mono ?_; rintro e w2 ⟨b, rfl, d2', b2⟩; obtain ⟨K, hK⟩ : ∃ K, (w1.drewN nq).heap.size = K := ⟨_, rfl⟩; have NK : Hid (N ≤ K) := (by show _ ≤ _; rw [← hK]; exact MT.out _ BQ.out); rw [hK] at d2' b2; have D2 : Hid (IsD w2 K b m (layD l)) := d2'; have B2 : Hid (Below N w w2) := BQ.out.trans (b2.mono NK.out); have K2' : Hid (K ≤ w2.heap.size) := (by show _ ≤ _; rw [← hK]; rw [← hK] at b2; exact b2.size); clear d2' b2 hK)
    | (go_at_call 19; refine (LR.out _ B2.out).mono ?_; rintro e w3 ⟨br, rfl, r3, b3⟩; obtain ⟨K2, hK2⟩ : ∃ K, w2.heap.size = K := ⟨_, rfl⟩; have D3 : Hid (IsD w3 K b m (layD l)) := D2.out.keep b3; have NK2 : Hid (N ≤ K2) := (by show _ ≤ _; rw [← hK2]; exact MT.out _ B2.out); have K3 : Hid (K ≤ w3.heap.size) := Nat.le_trans K2'.out b3.size; have K23 : Hid (K2 ≤ w3.heap.size) := (by show _ ≤ _; rw [← hK2]; exact b3.size); rw [hK2] at r3 b3; have R3 : Hid (IsR w3 K2 br (fun _ => True) (layD l)) := r3; have B3 : Hid (Below N w w3) := B2.out.trans (b3.mono NK2.out); clear r3 b3 hK2)
    | (go_at_call 24; refine (RD.out _ _ _ D3.out).mono ?_; rintro e w8 ⟨ab, cb, as0, cs, ev, rfl, ob, oi, er, b8⟩; have OB : Hid (IsB w8 ab bs) := ownsB_isB OKB.out ob; have OI : Hid (IsI w8 as0 ss) := ownsI_isI OKS.out oi; have ER : Hid (ErrIs w8 ev c at9) := er; have R8 : Hid (IsR w8 K2 br (fun _ => True) (layD l)) := R3.out.keep b8; have B8 : Hid (Below N w w8) := B3.out.trans (b8.mono (MT.out _ B3.out)); clear ob oi er b8)
    | (go_at_call 25; refine (DD.out _ _ _ R8.out).mono ?_; rintro e w9 ⟨ab2, cb2, as2, cs2, rfl, ob, oi, b9⟩; have OB2 : Hid (IsB w9 ab2 bs) := ownsB_isB OKB.out ob; have OI2 : Hid (IsI w9 as2 ss) := ownsI_isI OKS.out oi; have OB9 : Hid (IsB w9 ab bs) := OB.out.keep b9; have OI9 : Hid (IsI w9 as0 ss) := OI.out.keep b9; have ER9 : Hid (ErrIs w9 ev c at9) := ER.out.keep b9; have B9 : Hid (Below N w w9) := B8.out.trans (b9.mono (MT.out _ B8.out)); clear ob oi b9)
    | (go_at_call 16; refine (same_true _ _ _ _ _ _ bs _ OB9.out OB2.out rfl rfl).mono ?_; rintro e w' ⟨rfl, rfl⟩)
    | (go_at_call 17; refine (ints_same _ _ _ _ _ _ ss _ OI9.out OI2.out rfl rfl (by have := OKL.out; unfold maxLen; omega)).mono ?_; rintro e w10 ⟨rfl, b10⟩; have E10 : Hid (ErrIs w10 ev c at9) := ER9.out.keep b10; have B10 : Hid (Below N w w10) := B9.out.trans (b10.mono (MT.out _ B9.out)); clear b10)
    | (go_at_call 12; refine (code_any ev c at9 _ E10.out).mono ?_; rintro e w11 ⟨rfl, b11⟩; have E11 : Hid (ErrIs w11 ev c at9) := E10.out.keep b11; have B11 : Hid (Below N w w11) := B10.out.trans (b11.mono (MT.out _ B10.out)); clear b11)
    | (go_at_call 26; refine (sector_any ev c at9 _ E11.out (HT.out _ B11.out)).mono ?_; rintro e w12 ⟨rfl, b12⟩; have B12 : Hid (Below N w w12) := B11.out.trans (b12.mono (MT.out _ B11.out)); clear b12))
  go_ret
  exact ⟨rfl, by rw [HN.out]; exact B12.out⟩

/-- ChainReads. -/
theorem chainReads_any (a : Option Addr) (cap : Nat) (l : List Int) (first n : Int) (ar : Bool) (w : World) (hB : IsB w a l) (hbc : l.length ≤ cap ∧ cap ≤ maxLen) (hf : -9223372036854775808 ≤ first ∧ first ≤ 9223372036854775807) (hT : ErrT w) :
    Calls Tryd.prog 4 #[.agg #[.slice a l.length cap, .int .i64 first, .int .i64 n, .bool ar]] w fun e w' => e = .returned (.bool true) ∧ Below w.heap.size w w' := by
  by_cases h25 : 25600 < l.length
  · exact reads_few a cap l first n ar w hT hbc.1 hbc.2 (.inl h25)
  · by_cases h : l.length % 64 = 0 ∧ 8 ≤ l.length / 64
    · cases ar
      · exact reads_fit_plain a cap l first n w hT hB hbc.1 hbc.2 hf (by omega) h.1 h.2
      · exact reads_fit_armed a cap l first n w hT hB hbc.1 hbc.2 hf (by omega) h.1 h.2
    · exact reads_few a cap l first n ar w hT hbc.1 hbc.2 (.inr h)
end Go.Proofs.YtgmmgklcndnehaaDoor
