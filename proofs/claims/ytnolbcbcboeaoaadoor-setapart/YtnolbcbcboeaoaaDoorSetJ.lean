/- A copy has nothing in common with the set: the walk of the law SetApart. -/
import Derived.Test.YtnolbcbcboeaoaaDoorSetM
import Derived.Test.YtnolbcbcboeaoaaDoorSetI
namespace Go.Proofs.YtnolbcbcboeaoaaDoor
open Go.RowKit
set_option linter.unusedVariables false

/-- A list that lies in neither of two blocks. -/
def IsN (w : World) (g g' : Nat) (a : Option Addr) (l : List Int) : Prop :=
  l = [] ∨ ∃ b off, a = some ⟨b, off, none⟩ ∧ b ≠ g ∧ b ≠ g' ∧ b < w.heap.size ∧ ∀ i, i < l.length → w.cell? ⟨b, off + i, none⟩ = some (.int .i64 (l.getD i 0))

theorem IsN.isL {w : World} {g g' : Nat} {a : Option Addr} {l : List Int} (h : IsN w g g' a l) : IsL w .i64 a l := by
  rcases h with h | ⟨b, off, e, _, _, hs, hc⟩
  · exact .inl h
  · exact .inr ⟨b, off, e, hs, hc⟩

theorem IsN.keepAll {w w' : World} {g g' : Nat} {a : Option Addr} {l : List Int} (h : IsN w g g' a l) (hb : Below w.heap.size w w') : IsN w' g g' a l := by
  rcases h with h | ⟨b, off, e, h1, h2, hs, hc⟩
  · exact .inl h
  · refine .inr ⟨b, off, e, h1, h2, by have := hb.size; omega, fun i hi => ?_⟩
    rw [hb.cell (p := ⟨b, off + i, none⟩) hs]
    exact hc i hi

theorem IsN.beside {w w' : World} {g g' o : Nat} {a : Option Addr} {l : List Int} (h : IsN w g g' a l) (ho : Only o w w') (hg : o = g ∨ o = g') : IsN w' g g' a l := by
  rcases h with h | ⟨b, off, e, h1, h2, hs, hc⟩
  · exact .inl h
  · refine .inr ⟨b, off, e, h1, h2, by have := ho.size; omega, fun i hi => ?_⟩
    rw [ho.cell (p := ⟨b, off + i, none⟩) (by show b ≠ o; omega)]
    exact hc i hi

/-- A list of the call's own, made behind a world: it lies in no block of that world. -/
theorem Owns.apart {w : World} {base cap : Nat} {a : Option Addr} {l : List Int} (h : Owns w base 3 .i64 a l cap) (g g' : Nat) (h1 : g < base) (h2 : g' < base ∨ w.heap.size ≤ g') : IsN w g g' a l := by
  have h' := h
  obtain ⟨_, ⟨_, hz⟩ | ⟨o, c', cur, hv, hg, hh, _⟩⟩ := h
  · exact .inl (List.eq_nil_of_length_eq_zero hz)
  · cases hv
    have hs := (Array.getElem?_eq_some_iff.1 hh).1
    refine .inr ⟨o, 0, rfl, by omega, by omega, hs, fun i hi => ?_⟩
    have := World.ownsRow.cellAt h' i (by omega)
    rw [Nat.zero_add, this]
    simp [List.getD, hi]

/-- The set, its copy and a list, in blocks of their own. -/
structure Ap (w0 wr : World) (b g b' g' N : Nat) (fs ft : Nat → Bool) (a : Option Addr) (l : List Int) : Prop where
  s : SetAt wr b g N fs
  t : SetAt wr b' g' N ft
  l : IsN wr g g' a l
  bel : Below w0.heap.size w0 wr
  h1 : w0.heap.size ≤ g
  h2 : w0.heap.size ≤ g'
  n1 : b ≠ g'
  n2 : g ≠ g'
  n3 : b' ≠ g

theorem Ap.onS {w0 wr w' : World} {b g b' g' N : Nat} {fs fs' ft : Nat → Bool} {a : Option Addr} {l : List Int} (h : Ap w0 wr b g b' g' N fs ft a l) (s : SetAt w' b g N fs') (o : Only g wr w') : Ap w0 w' b g b' g' N fs' ft a l :=
  ⟨s, h.t.beside o h.n3 (Ne.symm h.n2), h.l.beside o (.inl rfl), h.bel.trans (o.below h.h1), h.h1, h.h2, h.n1, h.n2, h.n3⟩

theorem Ap.onT {w0 wr w' : World} {b g b' g' N : Nat} {fs ft ft' : Nat → Bool} {a : Option Addr} {l : List Int} (h : Ap w0 wr b g b' g' N fs ft a l) (t : SetAt w' b' g' N ft') (o : Only g' wr w') : Ap w0 w' b g b' g' N fs ft' a l :=
  ⟨h.s.beside o h.n1 h.n2, t, h.l.beside o (.inr rfl), h.bel.trans (o.below h.h2), h.h1, h.h2, h.n1, h.n2, h.n3⟩

theorem Ap.keepAll {w0 wr w' : World} {b g b' g' N : Nat} {fs ft : Nat → Bool} {a : Option Addr} {l : List Int} (h : Ap w0 wr b g b' g' N fs ft a l) (k : Below wr.heap.size wr w') : Ap w0 w' b g b' g' N fs ft a l :=
  ⟨h.s.keepAll k, h.t.keepAll k, h.l.keepAll k, h.bel.trans (k.mono h.bel.size), h.h1, h.h2, h.n1, h.n2, h.n3⟩

theorem Ap.list {w0 wr : World} {b g b' g' N : Nat} {fs ft : Nat → Bool} {a a' : Option Addr} {l l' : List Int} (h : Ap w0 wr b g b' g' N fs ft a l) (k : IsN wr g g' a' l') : Ap w0 wr b g b' g' N fs ft a' l' :=
  ⟨h.s, h.t, k, h.bel, h.h1, h.h2, h.n1, h.n2, h.n3⟩

theorem Filled.some {wr : World} {o m : Nat} {f : Nat → Bool} (h : Filled wr o m m f) : ∀ j, j < m → ∃ x : Int, 0 ≤ x ∧ x ≤ 255 ∧ wr.cell? ⟨o, j, none⟩ = Option.some (.int .u8 x) := by
  intro j hj
  have := byt_lt f j
  refine ⟨((byt f j : Nat) : Int), by omega, by omega, ?_⟩
  rw [h.cell j hj, if_pos hj]

/-- The cells of a list that may be written. -/
def OwnC (w : World) (lo : Nat) (a : Option Addr) (m : Nat) : Prop :=
  m = 0 ∨ ∃ o, a = Option.some ⟨o, 0, none⟩ ∧ lo ≤ o ∧ (∀ j, j < m → ∃ x : Int, w.cell? ⟨o, j, none⟩ = Option.some (.int .i64 x)) ∧ ∀ j, w.frozen? ⟨o, j, none⟩ = false

theorem Owns.ownC {w : World} {base cap : Nat} {a : Option Addr} {l : List Int} (h : Owns w base 3 .i64 a l cap) : OwnC w base a l.length := by
  have h' := h
  obtain ⟨_, ⟨_, hz⟩ | ⟨o, c', cur, hv, hg, hh, _⟩⟩ := h
  · exact .inl hz
  · cases hv
    refine .inr ⟨o, rfl, hg, fun j hj => ⟨l.getD j 0, ?_⟩, fun j => World.ownsRow.frozenAt h' j⟩
    rw [World.ownsRow.cellAt h' j (by omega)]
    simp [List.getD, hj]

set_option maxRecDepth 20000 in
set_option maxHeartbeats 8000000 in
theorem setApart_any (n : Int) (a1 : Option Addr) (c1 len1 : Nat) (kd1 ii1 : Nat → Int) (a2 : Option Addr) (c2 len2 : Nat) (kd2 ii2 : Nat → Int) (w : World) (hT : TabIn w)
    (hC1 : IsC w a1 len1 kd1 ii1) (hl1 : len1 ≤ maxLen) (hi1 : ∀ i, i < len1 → kd1 i ≤ 9223372036854775807 ∧ ii1 i ≤ 9223372036854775807) (hC2 : IsC w a2 len2 kd2 ii2) (hl2 : len2 ≤ maxLen) :
    Calls Tryd.prog 7 #[.int .i64 n, .slice a1 len1 c1, .slice a2 len2 c2] w fun e w' => e = .returned (.bool true) ∧ Below w.heap.size w w' := by
  have HT : Hid (TabIn w) := hT
  have HC1 : Hid (IsC w a1 len1 kd1 ii1) := hC1
  have HI1 : Hid (∀ i, i < len1 → kd1 i ≤ 9223372036854775807 ∧ ii1 i ≤ 9223372036854775807) := hi1
  have HL1 : Hid (len1 ≤ maxLen) := hl1
  have HC2 : Hid (IsC w a2 len2 kd2 ii2) := hC2
  unfold maxLen at hl2
  clear hT hC1 hi1 hl1 hC2
  rcases Nat.lt_or_ge 300 len2 with h300 | h300
  all_goals
    go_enter Tryd.func7, Tryd.ntmps7
    go_wp2_with fail
    refine (alive_any w HT.out).mono ?_
    rintro e w1 ⟨rfl, b1⟩
    have B1 : Hid (Below w.heap.size w w1) := b1
    have T1 : Hid (TabIn w1) := HT.out.keep b1 HT.out.1
    clear b1
    go_wp2_with fail
    refine (plays_any _ a1 c1 len1 kd1 ii1 w1 T1.out (HC1.out.keep B1.out) HL1.out HI1.out).mono ?_
    rintro e w2 ⟨b, g, b2, g2, f, rfl, hB⟩
    generalize clampN _ = N at hB
    have S2 : Hid (SetAt w2 b g N f) := hB.s
    have G2 : Hid (w.heap.size ≤ g) := Nat.le_trans B1.out.size hB.ge1
    have B2 : Hid (Below w.heap.size w w2) := B1.out.trans (hB.bel.mono B1.out.size)
    have T2 : Hid (TabIn w2) := HT.out.keep B2.out HT.out.1
    have few := hB.s.few
    clear hB B1 T1
    go_wp2_with fail
    refine (list_any b g N f w2 S2.out T2.out).mono ?_
    rintro e w3 ⟨a3, c3, rfl, o3, b3⟩
    have S3 : Hid (SetAt w3 b g N f) := S2.out.keepAll b3
    have B3 : Hid (Below w.heap.size w w3) := B2.out.trans (b3.mono B2.out.size)
    have O3 : Hid (Owns w3 w2.heap.size 3 .i64 a3 (lsL f N) c3) := o3
    clear o3 b3
    go_wp2_with fail
    refine (copy_any b g N f w3 S3.out).mono ?_
    rintro e w4 ⟨rfl, t4, b4⟩
    have A4 : Ap w w4 b g (w3.heap.size + 1) w3.heap.size N f f a3 (lsL f N) :=
      ⟨S3.out.keepAll b4, t4, (O3.out.apart g w3.heap.size S2.out.hg (.inr (Nat.le_refl _))).keepAll b4, B3.out.trans (b4.mono B3.out.size), G2.out, B3.out.size,
        by have := S3.out.hb; omega, by have := S3.out.hg; omega, by have := S3.out.hg; omega⟩
    obtain ⟨b', hb'⟩ : ∃ b', w3.heap.size + 1 = b' := ⟨_, rfl⟩
    obtain ⟨g', hg'⟩ : ∃ g', w3.heap.size = g' := ⟨_, rfl⟩
    rw [hb', hg'] at A4
    rw [hb']
    have HA4 : Hid (Ap w w4 b g b' g' N f f a3 (lsL f N)) := A4
    clear A4 b4 t4 S2 S3 B2 B3 O3 G2 T2 hb' hg'
    go_wp2
    go_loopw [12] (fun iv wr => ∃ (k : Nat) (fs : Nat → Bool), k ≤ len2 ∧ k ≤ 300 ∧ iv = .int .i64 k ∧ Ap w wr b g b' g' N fs f a3 (lsL f N)) (fun iv _ => 300 - (intOf iv).toNat)
    case atStart => exact ⟨0, f, Nat.zero_le _, by omega, rfl, HA4.out⟩
    case round =>
      obtain ⟨k, fs, hk, hk3, rfl, hA⟩ := hrel
      have HA : Hid (Ap w _ b g b' g' N fs f a3 (lsL f N)) := hA
      by_cases hlt : k < len2 ∧ k < 300
      · obtain ⟨hk1, hk2⟩ := hlt
        obtain h0 | ⟨bl, off, hbo, hbs, hc⟩ := HC2.out
        · omega
        subst hbo
        have BS : Hid (bl < w.heap.size) := hbs
        have CK : Hid (w.cell? ⟨bl, off + k * 2, none⟩ = some (.int .i64 (kd2 k))) := (hc k hk1).1
        have CI : Hid (w.cell? ⟨bl, off + k * 2 + 1, none⟩ = some (.int .i64 (ii2 k))) := (hc k hk1).2
        have hcI := (hA.bel.cell (p := ⟨bl, off + k * 2 + 1, none⟩) hbs).trans CI.out
        clear hA hc hbs
        go_wp2_with fail
        refine (add_any b g N fs (ii2 k) _ HA.out.s).mono ?_
        rintro e w5 ⟨rfl, s5, o5⟩
        have A5 : Hid (Ap w w5 b g b' g' N _ f a3 (lsL f N)) := HA.out.onS s5 o5
        have hcK := (A5.out.bel.cell (p := ⟨bl, off + k * 2, none⟩) BS.out).trans CK.out
        clear s5 o5 hcI
        go_wp2_with fail
        refine (del_any b g N _ (kd2 k) _ A5.out.s).mono ?_
        rintro e w6 ⟨rfl, s6, o6⟩
        have A6 : Hid (Ap w w6 b g b' g' N _ f a3 (lsL f N)) := A5.out.onS s6 o6
        clear s6 o6 hcK A5 HA
        go_wp2
        go_roundw
        case rel => exact ⟨k + 1, _, by omega, by omega, by go_num, A6.out⟩
        case measure => simp [intOf]; omega
      · have hcase : (¬ k < len2) ∨ (k < len2 ∧ ¬ k < 300) := by omega
        first
          | (have hd5 : ¬ k < len2 := (by omega); skip)
          | (have hd5 : decide ((k : Int) < 300) = false := (by simp; omega); have hk2 : k < len2 := (by omega); skip)
        clear hlt hA HA4 hcase
        go_wp2_with fail
        refine (list_any b g N fs _ HA.out.s (HT.out.keep HA.out.bel HT.out.1)).mono ?_
        rintro e w5 ⟨a5, c5, rfl, o5, b5⟩
        have A5 : Hid (Ap w w5 b g b' g' N fs f a3 (lsL f N)) := HA.out.keepAll b5
        have N5 : Hid (IsN w5 g g' a5 (lsL fs N)) := o5.apart g g' HA.out.s.hg (.inl HA.out.t.hg)
        clear o5 b5 HA
        go_wp2_with fail
        refine (bytes_any b' g' N f w5 A5.out.t).mono ?_
        rintro e w6 ⟨rfl, f6, b6⟩
        have A6 : Hid (Ap w w6 b g b' g' N fs f a3 (lsL f N)) := A5.out.keepAll b6
        have C6 : Hid (∀ j, j < (N + 7) / 8 → ∃ x : Int, 0 ≤ x ∧ x ≤ 255 ∧ w6.cell? ⟨w5.heap.size, j, none⟩ = some (.int .u8 x)) := f6.some
        have F6 : Hid (∀ j, w6.frozen? ⟨w5.heap.size, j, none⟩ = false) := f6.thawed
        have B6 : Hid (Below w5.heap.size w5 w6) := b6
        clear f6 b6
        obtain ⟨m, hm⟩ : ∃ m, (N + 7) / 8 = m := ⟨_, rfl⟩
        rw [hm] at C6
        rw [hm]
        have hm8 : m ≤ 8192 := by omega
        clear hm
        go_wp2
        go_loopw [64] (fun iv wq => ∃ j : Nat, j ≤ m ∧ iv = .int .i64 j ∧ (∀ j, j < m → ∃ x : Int, 0 ≤ x ∧ x ≤ 255 ∧ wq.cell? ⟨w5.heap.size, j, none⟩ = some (.int .u8 x)) ∧ (∀ j, wq.frozen? ⟨w5.heap.size, j, none⟩ = false) ∧ Below w5.heap.size w5 wq) (fun iv _ => m - (intOf iv).toNat)
        case atStart => exact ⟨0, Nat.zero_le _, rfl, C6.out, F6.out, B6.out⟩
        case round =>
          obtain ⟨j, hj, rfl, hc, hfz, hbe⟩ := hrel
          have HC : Hid (∀ j, j < m → ∃ x : Int, 0 ≤ x ∧ x ≤ 255 ∧ World.cell? _ ⟨w5.heap.size, j, none⟩ = some (.int .u8 x)) := hc
          have HF : Hid (∀ j, World.frozen? _ ⟨w5.heap.size, j, none⟩ = false) := hfz
          have HBe : Hid (Below w5.heap.size w5 _) := hbe
          clear A6 C6 F6 B6
          by_cases hjm : j < m
          · obtain ⟨x, x0, x1, hcell⟩ := hc j hjm
            have hz := hfz j
            clear hc hfz hbe
            go_wp2
            go_roundw
            case rel =>
              refine ⟨j + 1, by omega, by go_num, fun i hi => ?_, fun i => by rw [frozen_set]; exact HF.out i, HBe.out.setCell (Nat.le_refl _) _⟩
              by_cases e : i = j
              · subst e; exact ⟨_, by omega, by omega, cell_set hcell⟩
              · rw [cell_else e]; exact HC.out i hi
            case measure => simp [intOf]; omega
          · have A7 : Hid (Ap w _ b g b' g' N fs f a3 (lsL f N)) := A5.out.keepAll hbe
            have N7 : Hid (IsN _ g g' a5 (lsL fs N)) := N5.out.keepAll hbe
            clear hc hfz hbe HC HF HBe A5 N5
            go_wp2_with fail
            refine (list_any b' g' N f _ A7.out.t (HT.out.keep A7.out.bel HT.out.1)).mono ?_
            rintro e w8 ⟨a8, c8, rfl, o8, b8⟩
            have A8 : Hid (Ap w w8 b g b' g' N fs f a3 (lsL f N)) := A7.out.keepAll b8
            have N8 : Hid (IsN w8 g g' a5 (lsL fs N)) := N7.out.keepAll b8
            have L8 : Hid (IsL w8 .i64 a8 (lsL f N)) := o8.isL
            clear o8 b8 A7 N7
            go_wp2_with fail
            refine (ints_true a8 a3 _ _ c8 c3 (lsL f N) w8 L8.out A8.out.l.isL rfl rfl (by rw [lsL_len]; exact Nat.le_trans (cnt_le f N) few)).mono ?_
            rintro e w9 ⟨rfl, b9⟩
            have A9 : Hid (Ap w w9 b g b' g' N fs f a5 (lsL fs N)) := (A8.out.list N8.out).keepAll b9
            have h1 := A9.out.s.len
            have h2 := A9.out.t.len
            clear b9 A8 N8 L8
            go_wp2_with fail
            refine (len_any b' N _ h2).mono ?_
            rintro e wx ⟨rfl, rfl⟩
            go_wp2_with fail
            refine (len_any b N _ h1).mono ?_
            rintro e wx ⟨rfl, rfl⟩
            clear h1 h2
            go_wp2
            go_loopw [16] (fun iv wr => ∃ (k : Nat) (ft : Nat → Bool), k ≤ len2 ∧ k ≤ 300 ∧ iv = .int .i64 k ∧ Ap w wr b g b' g' N fs ft a5 (lsL fs N)) (fun iv _ => 300 - (intOf iv).toNat)
            case atStart => exact ⟨0, f, Nat.zero_le _, by omega, rfl, A9.out⟩
            case round =>
              obtain ⟨i, ft, hi, hi3, rfl, hA⟩ := hrel
              have HA : Hid (Ap w _ b g b' g' N fs ft a5 (lsL fs N)) := hA
              by_cases hlt : i < len2 ∧ i < 300
              · obtain ⟨hi1, hi2⟩ := hlt
                obtain h0 | ⟨bl, off, hbo, hbs, hc⟩ := HC2.out
                · omega
                subst hbo
                have BS : Hid (bl < w.heap.size) := hbs
                have CK : Hid (w.cell? ⟨bl, off + i * 2, none⟩ = some (.int .i64 (kd2 i))) := (hc i hi1).1
                have CI : Hid (w.cell? ⟨bl, off + i * 2 + 1, none⟩ = some (.int .i64 (ii2 i))) := (hc i hi1).2
                have hcI := (hA.bel.cell (p := ⟨bl, off + i * 2 + 1, none⟩) hbs).trans CI.out
                clear hA hc hbs A9
                go_wp2_with fail
                refine (del_any b' g' N ft (ii2 i) _ HA.out.t).mono ?_
                rintro e wy ⟨rfl, t5, o5⟩
                have D5 : Hid (Ap w wy b g b' g' N fs _ a5 (lsL fs N)) := HA.out.onT t5 o5
                have hcK := (D5.out.bel.cell (p := ⟨bl, off + i * 2, none⟩) BS.out).trans CK.out
                clear t5 o5 hcI
                go_wp2_with fail
                refine (add_any b' g' N _ (kd2 i) _ D5.out.t).mono ?_
                rintro e wz ⟨rfl, t6, o6⟩
                have D6 : Hid (Ap w wz b g b' g' N fs _ a5 (lsL fs N)) := D5.out.onT t6 o6
                clear t6 o6 hcK D5 HA
                go_wp2
                go_roundw
                case rel => exact ⟨i + 1, _, by omega, by omega, by go_num, D6.out⟩
                case measure => simp [intOf]; omega
              · have hcase : (¬ i < len2) ∨ (i < len2 ∧ ¬ i < 300) := by omega
                first
                  | (have hd6 : ¬ i < len2 := (by omega); skip)
                  | (have hd6 : decide ((i : Int) < 300) = false := (by simp; omega); have hi2 : i < len2 := (by omega); skip)
                clear hlt hA A9 hcase
                go_wp2_with fail
                refine (list_any b g N fs _ HA.out.s (HT.out.keep HA.out.bel HT.out.1)).mono ?_
                rintro e wa ⟨aa, cc, rfl, oa, ba⟩
                obtain ⟨M, hM⟩ : ∃ M, (lsL fs N).length = M := ⟨_, rfl⟩
                have hM6 : M ≤ 65536 := by rw [← hM, lsL_len]; exact Nat.le_trans (cnt_le fs N) few
                have OA : Hid (∃ wv, OwnC wa wv.heap.size aa M ∧ Below wv.heap.size wv wa ∧ Ap w wv b g b' g' N fs ft a5 (lsL fs N)) := ⟨_, by rw [← hM]; exact oa.ownC, ba, HA.out⟩
                have HM : Hid ((lsL fs N).length = M) := hM
                rw [hM]
                clear oa ba hM HA
                go_wp2
                go_loopw [116] (fun iv wq => ∃ j : Nat, j ≤ M ∧ iv = .int .i64 j ∧ ∃ wv, OwnC wq wv.heap.size aa M ∧ Below wv.heap.size wv wq ∧ Ap w wv b g b' g' N fs ft a5 (lsL fs N)) (fun iv _ => M - (intOf iv).toNat)
                case atStart => exact ⟨0, Nat.zero_le _, rfl, OA.out⟩
                case round =>
                  obtain ⟨j, hj, rfl, wv, hO, hbe, hA⟩ := hrel
                  have HBe : Hid (Below wv.heap.size wv _) := hbe
                  have HA : Hid (Ap w wv b g b' g' N fs ft a5 (lsL fs N)) := hA
                  by_cases hjM : j < M
                  · obtain h0 | ⟨o, ho, hlo, hc, hfz⟩ := hO
                    · omega
                    subst ho
                    obtain ⟨x, hcell⟩ := hc j hjM
                    have hz := hfz j
                    have HC : Hid (∀ j, j < M → ∃ x : Int, World.cell? _ ⟨o, j, none⟩ = some (.int .i64 x)) := hc
                    have HF : Hid (∀ j, World.frozen? _ ⟨o, j, none⟩ = false) := hfz
                    have HLO : Hid (wv.heap.size ≤ o) := hlo
                    clear hc hfz hbe hA hlo OA
                    go_wp2
                    go_roundw
                    case rel =>
                      refine ⟨j + 1, by omega, by go_num, wv, .inr ⟨o, rfl, HLO.out, fun i hi => ?_, fun i => by rw [frozen_set]; exact HF.out i⟩, HBe.out.setCell HLO.out _, HA.out⟩
                      by_cases e : i = j
                      · subst e; exact ⟨_, cell_set hcell⟩
                      · rw [cell_else e]; exact HC.out i hi
                    case measure => simp [intOf]; omega
                  · have AF : Hid (Ap w _ b g b' g' N fs ft a5 (lsL fs N)) := hA.keepAll hbe
                    clear hO hbe hA OA HBe HA
                    go_wp2_with fail
                    refine (list_any b g N fs _ AF.out.s (HT.out.keep AF.out.bel HT.out.1)).mono ?_
                    rintro e wb ⟨ab, cb, rfl, ob, bb⟩
                    have AG : Hid (Ap w wb b g b' g' N fs ft a5 (lsL fs N)) := AF.out.keepAll bb
                    have LB : Hid (IsL wb .i64 ab (lsL fs N)) := ob.isL
                    clear ob bb AF
                    go_wp2_with fail
                    refine (ints_true ab a5 _ _ cb c5 (lsL fs N) wb LB.out AG.out.l.isL rfl HM.out (by rw [lsL_len]; exact Nat.le_trans (cnt_le fs N) few)).mono ?_
                    rintro e wc ⟨rfl, bc⟩
                    have BF : Hid (Below w.heap.size w wc) := AG.out.bel.trans (bc.mono AG.out.bel.size)
                    clear bc
                    go_wp2
                    go_ret
                    exact ⟨rfl, BF.out⟩
end Go.Proofs.YtnolbcbcboeaoaaDoor
