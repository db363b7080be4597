/- Whatever bytes are read as a frame, or as a frame and more, the answer is the document's, and the bytes stay: the law FrameReads, for every input. -/
import Derived.Test.YtjmbmicollkmkaaFrN
import Derived.RegionTactic
namespace Go.Proofs.Ytjmbmicollkmkaa
open Go.ChangeShapes Go.WideShapes Go.ChangeAt Go.RowKit
set_option linter.unusedVariables false

theorem OwnsB.isB {w : World} {base cap : Nat} {a : Option Addr} {l : List Int} (h : OwnsB w base a l cap) (hb : AllB l) : IsB w a l := ownsB_isB hb h

/-- A row of bytes that may be written. -/
def RowB (w : World) (a : Option Addr) (n : Nat) : Prop :=
  n = 0 ∨ ∃ g, a = some ⟨g, 0, none⟩ ∧ g < w.heap.size ∧ ∀ i, i < n → ∃ x : Int, 0 ≤ x ∧ x ≤ 255 ∧ w.cell? ⟨g, i, none⟩ = some (.int .u8 x) ∧ w.frozen? ⟨g, i, none⟩ = false

/-- Of the block of a row alone another may be. -/
structure OnlyR (row : Option Nat) (w w' : World) : Prop where
  os : w'.os = w.os
  tape : w'.tape = w.tape
  output : w'.output = w.output
  size : w'.heap.size = w.heap.size
  block : ∀ k, some k ≠ row → w'.heap[k]? = w.heap[k]?

theorem OnlyR.refl (row : Option Nat) (w : World) : OnlyR row w w := ⟨rfl, rfl, rfl, rfl, fun _ _ => rfl⟩
theorem OnlyR.set {row : Option Nat} {w w' : World} (h : OnlyR row w w') {g j : Nat} (v : Value) (hg : row = some g) : OnlyR row w (w'.setCell ⟨g, j, none⟩ v) :=
  ⟨h.os, h.tape, h.output, by simpa using h.size, fun k hk => (Below.heap_setCell _ _ _ _ (by intro e; apply hk; rw [hg]; exact congrArg some e)).trans (h.block k hk)⟩
theorem OnlyR.drew {row : Option Nat} {w w' : World} (h : OnlyR row w w') : OnlyR row w w'.drew := ⟨h.os, h.tape, h.output, h.size, h.block⟩
theorem OnlyR.below {row : Option Nat} {w w' : World} {B : Nat} (h : OnlyR row w w') (hB : ∀ k, row = some k → B ≤ k) : Below B w w' :=
  ⟨h.os, h.tape, h.output, by rw [h.size]; exact Nat.le_refl _, fun k hk => h.block k (fun e => by have := hB k e.symm; omega)⟩

theorem rowB_of {w : World} {base cap : Nat} {a : Option Addr} {l : List Int} (h : OwnsB w base a l cap) (hb : AllB l) : RowB w a l.length := by
  have h' := h
  obtain ⟨_, ⟨h1, h2⟩ | ⟨g, c', cur, h1, hg, h2, _⟩⟩ := h
  · exact .inl h2
  · cases h1
    refine .inr ⟨g, rfl, (Array.getElem?_eq_some_iff.1 h2).1, fun i hi => ⟨l.getD i 0, (hb.at i).1, (hb.at i).2, ?_, ?_⟩⟩
    · rw [World.ownsRow.cellAt h' i (by omega)]
      simp [List.getD, hi]
    · simp [World.frozen?, h2]

theorem RowB.keep {w w' : World} {a : Option Addr} {n : Nat} (h : RowB w a n) (hb : Below w.heap.size w w') : RowB w' a n := by
  rcases h with h | ⟨g, rfl, hg, hc⟩
  · exact .inl h
  · refine .inr ⟨g, rfl, Nat.lt_of_lt_of_le hg hb.size, fun i hi => ?_⟩
    obtain ⟨x, x0, x1, h1, h2⟩ := hc i hi
    exact ⟨x, x0, x1, by rw [hb.cell (p := ⟨g, i, none⟩) hg]; exact h1, by rw [hb.frozen (p := ⟨g, i, none⟩) hg]; exact h2⟩

theorem RowB.beside {w w' : World} {a : Option Addr} {n cap : Nat} {row : Option Nat} (h : RowB w a n) (ho : OnlyR row w w') (hr : n ≠ 0 → (Value.slice a n cap).ownBlock ≠ row) : RowB w' a n := by
  rcases h with h | ⟨g, rfl, hg, hc⟩
  · exact .inl h
  · by_cases h0 : n = 0
    · exact .inl h0
    · have hne : some g ≠ row := hr h0
      refine .inr ⟨g, rfl, by rw [ho.size]; exact hg, fun i hi => ?_⟩
      obtain ⟨x, x0, x1, h1, h2⟩ := hc i hi
      exact ⟨x, x0, x1, by rw [World.cell?_of_block (a := ⟨g, i, none⟩) (ho.block g hne)]; exact h1, by rw [World.frozen?_of_block (a := ⟨g, i, none⟩) (ho.block g hne)]; exact h2⟩

theorem RowB.set {w : World} {n g i : Nat} {y : Int} (h : RowB w (some ⟨g, 0, none⟩) n) (y0 : 0 ≤ y) (y1 : y ≤ 255) : RowB (w.setCell ⟨g, i, none⟩ (.int .u8 y)) (some ⟨g, 0, none⟩) n := by
  rcases h with h | ⟨g', e, hg, hc⟩
  · exact .inl h
  · cases e
    refine .inr ⟨g, rfl, by simpa using hg, fun j hj => ?_⟩
    obtain ⟨x, x0, x1, h1, h2⟩ := hc j hj
    by_cases hij : j = i
    · subst hij
      exact ⟨y, y0, y1, cell_set h1, by rw [frozen_set]; exact h2⟩
    · exact ⟨x, x0, x1, by rw [cell_else hij]; exact h1, by rw [frozen_set]; exact h2⟩

theorem bodyW_allB {l : List Int} {al : Bool} (h : AllB l) : AllB (bodyW l al) := by
  rw [bodyW]
  split
  · exact (h.take _).drop _
  · intro x hx; cases hx
theorem restW_allB {l : List Int} (h : AllB l) : AllB (restW l) := by
  rw [restW]
  split
  · exact h.drop _
  · intro x hx; cases hx
theorem bodyW_len {l : List Int} {al : Bool} : (bodyW l al).length ≤ l.length := by
  rw [bodyW]
  split
  · rw [bodyL, List.length_drop, List.length_take]; omega
  · simp
theorem restW_len {l : List Int} : (restW l).length ≤ l.length := by
  rw [restW]
  split
  · rw [List.length_drop]; omega
  · simp

set_option maxHeartbeats 4000000 in
theorem frameReads_any (a : Option Addr) (cap : Nat) (l : List Int) (w : World) (hB : IsB w a l) (hc : l.length ≤ cap) (hm : cap ≤ maxLen) (hbig : l.length ≤ 140737488355328) :
    Calls Try.prog 4 #[.slice a l.length cap] w fun e w' => e = .returned (.bool true) ∧ Below w.heap.size w w' := by
  have HI : Hid (IsB w a l) := hB
  have hb : AllB l := hB.1
  have HB : Hid (AllB l) := hb
  have lD := bodyW_len (l := l) (al := true)
  have lS := bodyW_len (l := l) (al := false)
  have lR := restW_len (l := l)
  obtain ⟨X, hX⟩ : ∃ X, bodyW l true = X := ⟨_, rfl⟩
  obtain ⟨Y, hY⟩ : ∃ Y, bodyW l false = Y := ⟨_, rfl⟩
  obtain ⟨Z, hZ⟩ : ∃ Z, restW l = Z := ⟨_, rfl⟩
  obtain ⟨k1, hk1⟩ : ∃ k1, kindW l true = k1 := ⟨_, rfl⟩
  obtain ⟨k2, hk2⟩ : ∃ k2, kindW l false = k2 := ⟨_, rfl⟩
  obtain ⟨r1, hr1⟩ : ∃ r1, wrongL l true = r1 := ⟨_, rfl⟩
  obtain ⟨r2, hr2⟩ : ∃ r2, wrongL l false = r2 := ⟨_, rfl⟩
  have bX := bodyW_allB (al := true) hb
  have bY := bodyW_allB (al := false) hb
  have bZ := restW_allB hb
  rw [hX] at bX lD
  rw [hY] at bY lS
  rw [hZ] at bZ lR
  have EX : Hid (bodyW l true = X) := hX
  have EY : Hid (bodyW l false = Y) := hY
  have EZ : Hid (restW l = Z) := hZ
  have EK1 : Hid (kindW l true = k1) := hk1
  have EK2 : Hid (kindW l false = k2) := hk2
  have ER1 : Hid (wrongL l true = r1) := hr1
  have ER2 : Hid (wrongL l false = r2) := hr2
  have BX : Hid (AllB X) := bX
  have BY : Hid (AllB Y) := bY
  have BZ : Hid (AllB Z) := bZ
  clear hB hb hX hY hZ hk1 hk2 hr1 hr2 bX bY bZ
  go_enter Try.func4, Try.ntmps4
  go_wp2_with fail
  refine (alive_any w).mono ?_
  rintro e w1 ⟨rfl, b1⟩
  have B1 : Hid (Below w.heap.size w w1) := b1
  have z1 := b1.size
  clear b1
  go_wp2_with fail
  refine (copy_any a cap _ l w1 rfl (HI.out.keep B1.out) hbig).mono ?_
  rintro e w2 ⟨g2, c2, rfl, o2, b2⟩
  have B2 : Hid (Below w.heap.size w w2) := B1.out.trans (b2.mono z1)
  have I2 : Hid (IsB w2 (some ⟨g2, 0, none⟩) l) := o2.isB HB.out
  obtain ⟨l2, m2, _⟩ := ownsB_isL o2
  have z2 := B2.out.size
  clear o2 b2
  go_wp2_with fail
  refine (decode_of _ c2 _ l X k1 r1 w2 rfl I2.out l2 m2 EK1.out EX.out ER1.out).mono ?_
  rintro e w3 ⟨a3, c3, rfl, o3, b3⟩
  have n3 : Below w2.heap.size w2 (w3.alloc (.cells #[.int .i64 k1, .slice a3 X.length c3] 29)) := b3.alloc b3.size _
  have B3 : Hid (Below w.heap.size w (w3.alloc (.cells #[.int .i64 k1, .slice a3 X.length c3] 29))) := B2.out.trans (n3.mono z2)
  have I3 : Hid (IsB (w3.alloc (.cells #[.int .i64 k1, .slice a3 X.length c3] 29)) (some ⟨g2, 0, none⟩) l) := I2.out.keep n3
  have J3 : Hid (IsB (w3.alloc (.cells #[.int .i64 k1, .slice a3 X.length c3] 29)) a3 X) := (o3.isB BX.out).keep ((Below.refl _ _).alloc (Nat.le_refl _) _)
  have X3 : Hid (Boxed (w3.alloc (.cells #[.int .i64 k1, .slice a3 X.length c3] 29)) w3.heap.size k1 a3 X.length c3) := boxed_new _ _ _ _ _
  clear o3 b3 n3
  go_wp2_with fail
  generalize w3.alloc (.cells #[.int .i64 k1, .slice a3 X.length c3] 29) = v3 at *
  have z3 := B3.out.size
  refine (rdecode_any a cap _ l v3 rfl (HI.out.keep B3.out) hc hm hbig).mono ?_
  rw [EK1.out, EX.out, ER1.out]
  rintro e w4 ⟨a4, c4, rfl, o4, b4⟩
  have B4 : Hid (Below w.heap.size w w4) := B3.out.trans (b4.mono z3)
  have I4 : Hid (IsB w4 (some ⟨g2, 0, none⟩) l) := I3.out.keep b4
  have J4 : Hid (IsB w4 a3 X) := J3.out.keep b4
  have K4 : Hid (IsB w4 a4 X) := o4.isB BX.out
  have X4 : Hid (Boxed w4 w3.heap.size k1 a3 X.length c3) := X3.out.keep b4
  have z4 := B4.out.size
  have p0 := X4.out.cell0
  have p1 := X4.out.cell1
  clear o4 b4
  go_wp2_with fail
  refine (same_true a3 a4 _ _ c3 c4 X w4 J4.out K4.out rfl rfl).mono ?_
  rintro e w5 ⟨rfl, rfl⟩
  go_wp2_with fail
  refine (split_of _ c2 _ l Y Z k2 r2 w4 rfl I4.out l2 m2 hbig EK2.out EY.out EZ.out ER2.out).mono ?_
  rintro e w5 ⟨a5, c5, a6, c6, rfl, o5, o6, dj, b5⟩
  have n5 : Below w5.heap.size w5 (w5.alloc (.cells #[.int .i64 k2, .slice a5 Y.length c5] 29)) := (Below.refl _ _).alloc (Nat.le_refl _) _
  have A5 : Hid (Below w4.heap.size w4 (w5.alloc (.cells #[.int .i64 k2, .slice a5 Y.length c5] 29))) := b5.alloc b5.size _
  have O5 : Hid (OwnsB (w5.alloc (.cells #[.int .i64 k2, .slice a5 Y.length c5] 29)) w4.heap.size a5 Y c5) := o5.keep n5
  have O6 : Hid (OwnsB (w5.alloc (.cells #[.int .i64 k2, .slice a5 Y.length c5] 29)) w4.heap.size a6 Z c6) := o6.keep n5
  have DJ : Hid (∀ g, (Value.slice a5 Y.length c5).ownBlock = some g → (Value.slice a6 Z.length c6).ownBlock ≠ some g) := dj
  have X5 : Hid (Boxed (w5.alloc (.cells #[.int .i64 k2, .slice a5 Y.length c5] 29)) w5.heap.size k2 a5 Y.length c5) := boxed_new _ _ _ _ _
  clear o5 o6 dj b5 n5 p0 p1
  go_wp2_with fail
  generalize w5.alloc (.cells #[.int .i64 k2, .slice a5 Y.length c5] 29) = v5 at *
  have y5 := A5.out.size
  refine (rsplit_any a cap _ l v5 rfl ((HI.out.keep B4.out).keep A5.out) hc hm hbig).mono ?_
  rw [EK2.out, EY.out, EZ.out, ER2.out]
  rintro e w6 ⟨a7, c7, a8, c8, rfl, o7, o8, b6⟩
  have A6 : Hid (Below w4.heap.size w4 w6) := A5.out.trans (b6.mono y5)
  have P6 : Hid (OwnsB w6 w4.heap.size a5 Y c5) := O5.out.keep b6
  have Q6 : Hid (OwnsB w6 w4.heap.size a6 Z c6) := O6.out.keep b6
  have X6 : Hid (Boxed w6 w5.heap.size k2 a5 Y.length c5) := X5.out.keep b6
  have R6 : Hid (IsB w6 a7 Y) := o7.isB BY.out
  have S6 : Hid (IsB w6 a8 Z) := o8.isB BZ.out
  have p0 := X6.out.cell0
  have p1 := X6.out.cell1
  clear o7 o8 b6
  go_wp2_with fail
  refine (same_true a5 a7 _ _ c5 c7 Y w6 (P6.out.isB BY.out) R6.out rfl rfl).mono ?_
  rintro e w7 ⟨rfl, rfl⟩
  go_wp2_with fail
  refine (same_true a6 a8 _ _ c6 c8 Z w6 (Q6.out.isB BZ.out) S6.out rfl rfl).mono ?_
  rintro e w7 ⟨rfl, rfl⟩
  go_wp2
  have AP : Hid (some w5.heap.size ≠ (Value.slice a5 Y.length c5).ownBlock) := X6.out.apart P6.out
  have P1 : Hid (w6.cell? ⟨w5.heap.size, 1, none⟩ = some (.slice a5 Y.length c5)) := p1
  clear p0 p1
  go_loopw [86] (fun iv wr => ∃ i : Nat, i ≤ Y.length ∧ iv = .int .i64 i ∧ RowB wr a5 Y.length ∧ OnlyR (Value.slice a5 Y.length c5).ownBlock w6 wr) (fun iv _ => Y.length - (intOf iv).toNat)
  case atStart => exact ⟨0, Nat.zero_le _, rfl, rowB_of P6.out BY.out, OnlyR.refl _ _⟩
  case round =>
    obtain ⟨i, hi, rfl, hR, hO⟩ := hrel
    have HO : Hid (OnlyR (Value.slice a5 Y.length c5).ownBlock w6 _) := hO
    have HR : Hid (RowB _ a5 Y.length) := hR
    by_cases hlt : i < Y.length
    · obtain h0 | ⟨g5, rfl, hg5, hcs⟩ := hR
      · omega
      obtain ⟨x, x0, x1, hcell, hfr⟩ := hcs i hlt
      have p1 := (World.cell?_of_block (a := ⟨w5.heap.size, 1, none⟩) (hO.block w5.heap.size AP.out)).trans P1.out
      have hne : w5.heap.size ≠ g5 := fun e => AP.out (by rw [e]; rfl)
      have t1 : (i : Int) < (Y.length : Int) := by omega
      clear hO hcs
      go_wp2_with fail
      go_region
      all_goals go_wp2
      all_goals go_roundw
      case rel => exact ⟨i + 1, by omega, by go_num, HR.out.set (by omega) (by omega), (HO.out.set _ rfl).drew⟩
      case measure => simp [intOf]; omega
    · obtain rfl : i = Y.length := by omega
      have D1 : Hid (Below w4.heap.size w4 _) := A6.out.trans (hO.below (own_ge P6.out))
      have R1 : Hid (RowB _ a6 Z.length) := (rowB_of Q6.out BZ.out).beside (cap := c6) hO (fun _ e => by
        cases h : (Value.slice a5 Y.length c5).ownBlock with
        | none => rw [h] at e; rename_i hz; obtain h0 | ⟨g, rfl, _⟩ := rowB_of Q6.out BZ.out; exact hz h0; simp [Value.ownBlock] at e
        | some g => exact DJ.out g h (e.trans h))
      clear hO hR
      go_wp2
      go_loopw [102] (fun iv wr => ∃ i : Nat, i ≤ Z.length ∧ iv = .int .i64 i ∧ RowB wr a6 Z.length ∧ Below w4.heap.size w4 wr) (fun iv _ => Z.length - (intOf iv).toNat)
      case atStart => exact ⟨0, Nat.zero_le _, rfl, R1.out, D1.out⟩
      case round =>
        obtain ⟨i, hi, rfl, hR, hD⟩ := hrel
        have HR : Hid (RowB _ a6 Z.length) := hR
        have HD : Hid (Below w4.heap.size w4 _) := hD
        by_cases hlt : i < Z.length
        · obtain h0 | ⟨g6, rfl, hg6, hcs⟩ := hR
          · omega
          obtain ⟨x, x0, x1, hcell, hfr⟩ := hcs i hlt
          have hge := own_ge Q6.out g6 rfl
          have t1 : (i : Int) < (Z.length : Int) := by omega
          clear hD hcs
          go_wp2
          go_roundw
          case rel => exact ⟨i + 1, by omega, by go_num, HR.out.set (by omega) (by omega), HD.out.setCell hge _⟩
          case measure => simp [intOf]; omega
        · obtain rfl : i = Z.length := by omega
          have IF := I4.out.keep hD
          have JF := J4.out.keep hD
          have KF := K4.out.keep hD
          have p1 := (X4.out.keep hD).cell1
          have BF : Hid (Below w.heap.size w _) := B4.out.trans (hD.mono z4)
          have AF := HI.out.keep BF.out
          have IFh : Hid (IsB _ (some ⟨g2, 0, none⟩) l) := IF
          have JFh : Hid (IsB _ a3 X) := JF
          have KFh : Hid (IsB _ a4 X) := KF
          have AFh : Hid (IsB _ a l) := AF
          clear hD hR IF JF KF AF
          go_wp2_with fail
          refine (same_true _ a _ _ c2 cap l _ IFh.out AFh.out rfl rfl).mono ?_
          rintro e w9 ⟨rfl, rfl⟩
          go_wp2_with fail
          refine (same_true a3 a4 _ _ c3 c4 X _ JFh.out KFh.out rfl rfl).mono ?_
          rintro e w9 ⟨rfl, rfl⟩
          go_wp2
          go_ret
          exact ⟨rfl, BF.out⟩

set_option maxRecDepth 100000 in
theorem frameReads_lifted (os : Os) (started : os.Started) (H : Type) (enc : TypeId × Value → H) :
    ReturnsInHanded {} Try.checked os 4 .any (Rows.frameReadsSpec.pre6 enc Try.prog Try.f4 Rows.frameReadsRow.domain false) (Rows.frameReadsSpec.post enc Try.prog Try.f4 false true false false) := by
  refine returnsInHanded_of_change_sized (C := Try.checked) own started (by kernel_rfl) Try.func4
    (ChangeSpec.witness6 (enc := enc) (C := Try.checked) false ⟨#[], #[.slice none 0 0], []⟩ 8 (by kernel_rfl) (by kernel_rfl) (by kernel_rfl) (by kernel_rfl)) ?_
  intro W base args ds gs before hval0 hW hcnd hsz0 hholds
  have hval : ∀ (j : Nat) t v, Try.f4.params[j]? = some t → args[j]? = some v → Value.okWide Try.prog W .any base t v := hval0
  have hsz : (DataW.weightsEach Try.prog (Try.f4.params.toList ++ Rows.frameReadsSpec.plain.varTypes Try.prog) (ds ++ gs)).all (· ≤ reachBytes) = true := hsz0
  have hW' := hW
  obtain ⟨p, q, hA0, hV, rfl, hfz, hnd⟩ := hW
  have hA : DataW.TrodAll enc Try.prog W 0 (fun _ => true) true Try.f4.params.toList args.toList ds p := hA0
  rw [Try.params4] at hA hval hsz
  obtain ⟨v0, vs0, d0, ds0, p0, q0, hargs, rfl, rfl, h0, r0⟩ := trodAll_cons hA
  obtain ⟨rfl, rfl, rfl⟩ := trodAll_nil r0
  obtain rfl : args = #[v0] := by cases args; simp_all
  obtain ⟨rfl, rfl⟩ := trodVars_none hV
  obtain ⟨a0, len0, cap0, rfl⟩ := okWide_slice Try.underlying22 (hval 0 22 v0 rfl rfl)
  have k0 := h0
  have lt0 : ∀ x ∈ p0, x.block < W.heap.size := by obtain ⟨m, hm⟩ := k0; exact DataW.trod_lt m _ _ _ hm
  obtain ⟨l0, rfl, hB0, hlc0, hm0, hnil0, hd0⟩ := open_bytes h0
  have hbig0 : l0.length ≤ 140737488355328 := by
    rcases hd0 with ⟨_, rfl⟩ | ⟨els, sp, rfl, he⟩
    · exact Nat.zero_le _
    · have := sized_slice hsz (j := 0) (t := 22) (e := 5) rfl rfl Try.underlying22
      rw [Try.bytes5] at this
      simp only [reachBytes] at this
      omega
  clear hA0 hval0
  refine (frameReads_any a0 cap0 l0 W hB0 hlc0 hm0 (by omega)).mono fun e W' ⟨he, bel⟩ => ?_
  subst he
  exact ⟨_, rfl, _, _, _, [], _, [], hW', trodAll_mk1 (shut_bool Try.underlying4 _), (trodAll_cons_mk (Below.trod laidOut (by kernel_rfl) (of_decide_eq_true (by kernel_rfl)) k0 bel lt0) trodAll_mk0), rfl, bel.frame _, fun h => by cases h⟩

theorem frameReads_holds : Rows.FrameReadsSaid :=
  OpenClaim.holds_of_wide 4 Try.f4 rfl rfl rfl rfl rfl rfl rfl ⟨rfl, rfl, rfl, rfl, rfl⟩ rfl rfl rfl rfl rfl (by kernel_rfl) Try.func4 (by kernel_rfl)
    (of_decide_eq_true (by kernel_rfl)) (by unfold Func.isWrapper; first | (rw [if_pos (by decide +kernel)]; kernel_rfl) | (rw [if_neg (by decide +kernel)]; exact ⟨rfl, rfl⟩))
    (fun os started H enc _ => frameReads_lifted os started H enc)
#print axioms frameReads_holds
end Go.Proofs.Ytjmbmicollkmkaa
