/- Layer 17: the bytes of the set of a span's live slots, as the code makes them. -/
import Derived.Test.YtbfamjnnlcopiaaGreatDoorGzAS
import Derived.Test.YtbfamjnnlcopiaaGreatDoorGzAJ
import Derived.Test.YtbfamjnnlcopiaaGreatDoorGzAH
import Derived.Lib.AppendZeros
import Derived.Test.YtbfamjnnlcopiaaGreatDoorGzAT
namespace Go.Proofs.YtbfamjnnlcopiaaGreatDoor
open Go.RowKit
set_option linter.unusedVariables false
set_option maxRecDepth 4000

/-- A set in new memory. -/
structure Lv (w0 wr : World) (b g n : Nat) (f : Nat → Bool) : Prop where
  set : SetAt wr b g n f
  low : Below w0.heap.size w0 wr
  gg : w0.heap.size ≤ g
theorem isB_of_isL {w : World} {a : Option Addr} {l : List Int} (h : IsL w .u8 a l) (hb : AllB l) : IsB w a l := ⟨hb, h⟩

set_option maxRecDepth 20000 in
set_option maxHeartbeats 2000000 in
theorem ilive_any (p c s : Int) (a : Option Addr) (n k : Nat) (l : List Int) (w : World) (hn : n = l.length) (hT : Tabs w) (hI : IsI w a l) (hm : l.length ≤ maxLen) (h : spOk p c s l = true) :
    Calls Tryz.prog 48 #[.agg #[.int .i64 p, .int .i64 c, .int .i64 s, .slice a n k]] w fun e w' => ∃ g, e = .returned (.slice (some ⟨g, 0, none⟩) ((slN c + 7) / 8) ((slN c + 7) / 8)) ∧ IsB w' (some ⟨g, 0, none⟩) (bitsG c l) ∧ Below w.heap.size w w' := by
  subst hn
  obtain ⟨D, hD, zD, rD, bD⟩ := dbox w p c s a l.length k
  have HD : Hid (w.alloc (.cells #[.int .i64 p, .int .i64 c, .int .i64 s, .slice a l.length k] 33) = D) := hD
  have BD : Hid (Below w.heap.size w D) := bD
  have TD : Hid (Tabs D) := hT.keep bD
  have ID : Hid (IsI D a l) := hI.keep bD
  have HIW : Hid (IsI w a l) := hI
  have RD : Hid (D.heap[w.heap.size]? = some (.cells (dcells p c s a l.length k) 33 (0, 0))) := rD
  have c0 := dcell0 rD
  have c1 := dcell1 rD
  have c2 := dcell2 rD
  have c3 := dcell3 rD
  have HM : Hid (l.length ≤ maxLen) := hm
  obtain ⟨k1, k2⟩ := spOk_iff.1 h
  have RT : Hid (Rt p c s) := newE_rt k1
  have HF : Hid (bitsG c l = bysL (fOf l) ((slN c + 7) / 8)) := rfl
  obtain ⟨N, hN⟩ : ∃ N, slN c = N := ⟨_, rfl⟩
  have HN : Hid (slN c = N) := hN
  have n16 : N ≤ 16 := by have := RT.out.facts.2.1; omega
  rw [hN] at k2
  have OK : Hid (okL N (-1) l = true) := k2
  have HCL : Hid (clampN (N : Nat) = N) := by show _ = _; rw [clampN, if_neg (by omega), if_neg (by omega)]; omega
  have H : Hid (spOk p c s l = true) := h
  rw [hN]
  unfold maxLen at hm
  clear hD zD rD bD hT hI h k1 k2 hN
  go_enter Tryz.func48, Tryz.ntmps48
  go_upto_region 1 with (fail)
  rw [HD.out]
  go_wp2_with (first
    | (go_at_call 61; refine (iof_yes p c s a l.length k l D rfl TD.out ID.out HM.out H.out).mono ?_; rintro e w1 ⟨sb, b, g, rfl, s1⟩; have S1 : Hid (Spn D w1 sb b g p c s (fOf l)) := s1; have d3 := bcell s1.low (dcell3 RD.out); clear s1)
    | (go_at_call 78; refine (slots_rt sb p c s _ S1.out.at'.box (TD.out.keep S1.out.low).1 RT.out N HN.out).mono ?_; rintro e w' ⟨rfl, rfl⟩)
    | (go_at_call 77; refine (snew_any _ _).mono ?_; rw [HCL.out]; rintro e w2 ⟨rfl, hw2⟩; have L2 : Hid (Lv D w2 (w1.heap.size + 1) w1.heap.size N (fOf (l.take 0))) := (by show Lv _ _ _ _ _ _; rw [← hw2, List.take_zero, fOf_nil]; exact ⟨newW_at w1 N (by omega), S1.out.low.trans ((newW_below w1 N).mono S1.out.low.size), S1.out.low.size⟩); have e3 : w2.cell? ⟨w.heap.size, 3, none⟩ = some (.slice a l.length k) := (by rw [← hw2]; exact bcell (newW_below w1 N) d3); clear hw2))
  obtain ⟨B, hB⟩ : ∃ B, w1.heap.size + 1 = B := ⟨_, rfl⟩
  obtain ⟨G, hG⟩ : ∃ G, w1.heap.size = G := ⟨_, rfl⟩
  rw [hB, hG] at L2
  rw [hB]
  clear hB hG
  go_loopw [19] (fun iv wr => ∃ (k : Nat) (t : Int), k ≤ l.length ∧ iv = .int .i64 (k : Nat) ∧ (∀ i : Nat, fOf (l.take k) i = true → (i : Int) ≤ t) ∧ -1 ≤ t ∧ okL N t (l.drop k) = true ∧ Lv D wr B G N (fOf (l.take k))) (fun iv _ => l.length - (intOf iv).toNat)
  case atStart => exact ⟨0, -1, Nat.zero_le _, rfl, fun i hi => by simp [fOf] at hi, by omega, OK.out, L2.out⟩
  case round =>
    clear L2 e3
    obtain ⟨j, t, hj, rfl, hA, t0, hO, hS⟩ := hrel
    rename World => wr
    have HA : Hid (∀ i : Nat, fOf (l.take j) i = true → (i : Int) ≤ t) := hA
    have HO : Hid (okL N t (l.drop j) = true) := hO
    have HS : Hid (Lv D wr B G N (fOf (l.take j))) := hS
    clear hA hO hS
    by_cases hlt : j < l.length
    · obtain ⟨hin, h0 | ⟨ba, off, rfl, hba, hc⟩⟩ := ID.out
      · rw [h0] at hlt; simp at hlt
      have hcell := (HS.out.low.cell (p := ⟨ba, off + j, none⟩) hba).trans (hc j hlt)
      have ST := HO.out
      rw [okL_step N t l j hlt, Bool.and_eq_true, decide_eq_true_eq] at ST
      have FM : Hid (0 ≤ l.getD j 0 → (fun x => if x = (l.getD j 0).toNat then true else fOf (l.take j) x) = fOf (l.take (j + 1))) := fun h0 => fOf_more l j hlt h0
      obtain ⟨x, hx⟩ : ∃ x, l.getD j 0 = x := ⟨_, rfl⟩
      rw [hx] at hcell ST FM
      obtain ⟨⟨x0, x1⟩, hO2⟩ := ST
      obtain ⟨y, rfl⟩ : ∃ y : Nat, x = y := ⟨x.toNat, by omega⟩
      have hp : isP N (y : Int) = true := isP_true.2 (by omega)
      have T : Hid (turn N (fOf (l.take j)) (y : Int) true = fOf (l.take (j + 1))) := by
        show _ = _
        rw [← FM.out (by omega)]
        funext z; rw [← turn_put hp z]; rfl
      have NA : Hid (∀ i : Nat, fOf (l.take (j + 1)) i = true → (i : Int) ≤ (y : Int)) := fun i hi => by
        rw [← FM.out (by omega)] at hi
        by_cases e : i = y
        · omega
        · have hi : (if i = (Int.toNat (y : Int)) then true else fOf (l.take j) i) = true := hi
          rw [if_neg (by simpa using e)] at hi
          have := HA.out i hi
          omega
      have NO : Hid (okL N (y : Int) (l.drop (j + 1)) = true) := hO2
      have y1 : (y : Int) ≤ 16 := by omega
      clear hx hc hin hba hp hO2 x0 x1
      go_wp2_with (go_at_call 79; refine (sadd_any B G N (fOf (l.take j)) (y : Int) wr HS.out.set).mono ?_; rw [T.out]; rintro e w5 ⟨rfl, s5, o5⟩; have S5 : Hid (Lv D w5 B G N (fOf (l.take (j + 1)))) := ⟨s5, HS.out.low.trans (o5.below HS.out.gg), HS.out.gg⟩; clear s5 o5)
      go_roundw
      case rel => exact ⟨j + 1, (y : Int), by omega, by go_num, NA.out, by omega, NO.out, S5.out⟩
      case measure => simp [intOf]; omega
    · have F : Hid (Lv D wr B G N (fOf l)) := by have q := HS.out; rw [List.take_of_length_le (by omega)] at q; exact q
      go_wp2_with (go_at_call 80; refine (sbytes_any B G N (fOf l) _ F.out.set).mono ?_; rintro e w5 ⟨rfl, f5, b5⟩; have I5 : Hid (IsB w5 (some ⟨wr.heap.size, 0, none⟩) (bysL (fOf l) ((N + 7) / 8))) := isB_of_isL f5.isL (bys_byte _ _); have B5 : Hid (Below w.heap.size w w5) := BD.out.trans ((F.out.low.trans (b5.mono F.out.low.size)).mono BD.out.size); clear f5 b5)
      go_ret
      exact ⟨wr.heap.size, rfl, (by rw [HF.out, HN.out]; exact I5.out), B5.out⟩
end Go.Proofs.YtbfamjnnlcopiaaGreatDoor

/- Layer 17: slices.Grow of nothing, and slices.Concat. -/
namespace Go.Proofs.YtbfamjnnlcopiaaGreatDoor
open Go.RowKit
set_option linter.unusedVariables false
set_option maxRecDepth 4000

theorem zeroC_B (n : Nat) : Builtin.zeroCells #[.int .u8 0] n = (cellsB (List.replicate n 0)).toArray := by
  apply Array.toList_inj.1
  rw [zeroCells_B]
set_option maxHeartbeats 1000000 in
theorem igrow_any (n : Nat) (w : World) (hn : n ≤ 1000000) :
    Calls Tryz.prog 75 #[.slice none 0 0, .int .i64 (n : Nat)] w fun e w' => ∃ a' c', e = .returned (.slice a' 0 c') ∧ OwnsB w' w.heap.size a' [] c' ∧ Below w.heap.size w w' := by
  rcases Nat.eq_zero_or_pos n with rfl | hpos
  · go_enter Tryz.func75, Tryz.ntmps75
    go_wp2
    go_ret
    exact ⟨none, 0, rfl, World.ownsRow_nil _ _ _ _, Below.refl _ _⟩
  · obtain ⟨i0, hi0, hz0, hs0, hb0⟩ := info_parts Tryz.info5
    have hG1 : n ≤ grownCap w n 0 5 := grownCap_ge w _ _ _
    have hGm := grownCap_le_maxLen w n 0 5 (by unfold maxLen; omega)
    have hrz : ∀ ty, (Builtin.append_ #[25, 3] ty #[.slice none 0 0, .int .i64 (n : Nat)]).run Tryz.prog w = .ok (.slice (some ⟨w.heap.size, 0, none⟩) n (grownCap w n 0 5)) (w.drew.alloc (.cells ((cellsB (List.replicate n 0)).toArray ++ (cellsB (List.replicate (grownCap w n 0 5 - n) 0)).toArray) 5)) := fun ty => by
      have h := Lib.run_append_nil_zeros w 25 3 ty 5 i0 _ .i64 .i64 Tryz.underlying25 Tryz.underlying3 hi0 hz0 n hpos (by rw [hs0]; omega) (by omega) (by rw [hb0]; omega)
      rw [h]
      simp only [Value.cells, zeroC_B]
    obtain ⟨G, hG⟩ : ∃ G, grownCap w n 0 5 = G := ⟨_, rfl⟩
    rw [hG] at hrz hG1 hGm
    obtain ⟨wz, hwz⟩ : ∃ wz, w.drew.alloc (.cells ((cellsB (List.replicate n 0)).toArray ++ (cellsB (List.replicate (G - n) 0)).toArray) 5) = wz := ⟨_, rfl⟩
    have BN : Hid (Below w.heap.size w wz) := by show Below _ _ _; rw [← hwz]; exact (Below.refl _ w).drew.alloc (Nat.le_refl _) _
    have RN : Hid (OwnsB wz w.heap.size (some ⟨w.heap.size, 0, none⟩) [] G) := by
      show OwnsB _ _ _ _ _
      rw [← hwz]
      refine ⟨rfl, .inr ⟨w.heap.size, G, _, rfl, Nat.le_refl _, Go.heap_alloc_new w.drew _, by show 0 ≤ G; omega, hGm, ?_, rfl⟩⟩
      simp [cellsB_len]; omega
    rw [hwz] at hrz
    have RZ : Hid (∀ ty, (Builtin.append_ #[25, 3] ty #[.slice none 0 0, .int .i64 (n : Nat)]).run Tryz.prog w = .ok (.slice (some ⟨w.heap.size, 0, none⟩) n G) wz) := hrz
    have h1 : ¬ ((n : Int) < 0) := by omega
    have h4 : (0 : Int) < (n : Int) := by omega
    have h5 : (n : Int) > 0 := by omega
    unfold maxLen at hGm
    clear hrz hG hwz hi0 hz0 hs0 hb0
    go_enter Tryz.func75, Tryz.ntmps75
    go_wp2_with (at_builtin; refine Lib.wpList_append_run _ rfl _ _ _ _ rfl _ _ rfl rfl _ _ (RZ.out _) ?_)
    all_goals (go_ret; exact ⟨_, G, rfl, RN.out, BN.out⟩)

/-- A piece: a slice of bytes. -/
structure Pc where
  a : Option Addr
  c : Nat
  l : List Int
/-- The pieces up to one, joined. -/
def sumP (ps : List Pc) (k : Nat) : List Int := (ps.take k).flatMap (·.l)
theorem sumP_succ (ps : List Pc) (k : Nat) (h : k < ps.length) : sumP ps (k + 1) = sumP ps k ++ ps[k].l := by
  unfold sumP
  rw [List.take_succ_eq_append_getElem h, List.flatMap_append]
  simp
theorem sumP_le (ps : List Pc) (k : Nat) : (sumP ps k).length ≤ (sumP ps ps.length).length := by
  have e : sumP ps ps.length = sumP ps k ++ (ps.drop k).flatMap (·.l) := by
    unfold sumP
    rw [List.take_length, ← List.flatMap_append, List.take_append_drop]
  rw [e, List.length_append]
  omega
/-- Pieces that can be read. -/
structure IsS (w : World) (g : Nat) (ps : List Pc) : Prop where
  cell : ∀ i (h : i < ps.length), w.cell? ⟨g, i, none⟩ = some (.slice ps[i].a ps[i].l.length ps[i].c)
  byte : ∀ i (h : i < ps.length), IsB w ps[i].a ps[i].l
  nil : ∀ i (h : i < ps.length), ps[i].a = none → ps[i].l = [] ∧ ps[i].c = 0
theorem IsS.keep {w w' : World} {g : Nat} {ps : List Pc} (h : IsS w g ps) (hb : Below w.heap.size w w') : IsS w' g ps :=
  ⟨fun i hi => bcell hb (h.cell i hi), fun i hi => (h.byte i hi).keep hb, h.nil⟩

set_option maxRecDepth 20000 in
set_option maxHeartbeats 2000000 in
theorem concat_any (g n k : Nat) (ps : List Pc) (w : World) (hn : n = ps.length) (h : IsS w g ps) (hl : ps.length ≤ 100) (hs : (sumP ps ps.length).length ≤ 1000000) :
    Calls Tryz.prog 46 #[.slice (some ⟨g, 0, none⟩) n k] w fun e w' => ∃ a' c', e = .returned (.slice a' (sumP ps ps.length).length c') ∧ OwnsB w' w.heap.size a' (sumP ps ps.length) c' ∧ Below w.heap.size w w' := by
  have H : Hid (IsS w g ps) := h
  have HN : Hid (n = ps.length) := hn
  have n1 : n ≤ 100 := by omega
  have SL : Hid (∀ j, (sumP ps j).length ≤ 1000000) := fun j => Nat.le_trans (sumP_le ps j) hs
  clear h hn hl hs
  go_enter Tryz.func46, Tryz.ntmps46
  go_wp2
  go_loopw [3, 11] (fun sv iv wr => ∃ (j z : Nat), j ≤ n ∧ iv = .int .i64 (j : Nat) ∧ sv = .int .i64 (z : Nat) ∧ z = (sumP ps j).length ∧ w = wr) (fun _ iv _ => n - (intOf iv).toNat)
  case atStart => exact ⟨0, 0, Nat.zero_le _, rfl, rfl, rfl, rfl⟩
  case round =>
    obtain ⟨j, z, hj, rfl, rfl, hz, rfl⟩ := hrel
    have z1 : z ≤ 1000000 := by rw [hz]; exact SL.out j
    have HZ : Hid (z = (sumP ps j).length) := hz
    clear hz
    by_cases hlt : j < n
    · have hjp : j < ps.length := by have := HN.out; omega
      have hcell0 := H.out.cell j hjp
      have E := sumP_succ ps j hjp
      obtain ⟨y, hy⟩ : ∃ y, ps[j] = y := ⟨_, rfl⟩
      rw [hy] at hcell0 E
      obtain ⟨ya, yc, yl⟩ := y
      have hcell : w.cell? ⟨g, j, none⟩ = some (.slice ya yl.length yc) := hcell0
      obtain ⟨yn, hyn⟩ : ∃ yn, yl.length = yn := ⟨_, rfl⟩
      rw [hyn] at hcell
      have E2 : Hid (z + yn = (sumP ps (j + 1)).length) := by show _ = _; rw [E, List.length_append, ← HZ.out]; show z + yn = z + yl.length; rw [hyn]
      have z2 : z + yn ≤ 1000000 := by rw [E2.out]; exact SL.out _
      clear E hy hyn hcell0
      go_wp2
      go_roundw
      case rel => exact ⟨j + 1, z + yn, by omega, by go_num, by go_num, E2.out, trivial⟩
      case measure => simp [intOf]; omega
    · obtain rfl : j = n := by omega
      go_wp2_with fail
      refine (igrow_any z _ z1).mono ?_
      rintro e w1 ⟨a1, c1, rfl, o1, b1⟩
      have O1 : Hid (OwnsB w1 w.heap.size a1 [] c1) := o1
      have B1 : Hid (Below w.heap.size w w1) := b1
      clear o1 b1
      go_wp2
      go_loopw [6, 27] (fun sv iv wr => ∃ (i : Nat) (a' : Option Addr) (c' : Nat), i ≤ j ∧ iv = .int .i64 (i : Nat) ∧ sv = .slice a' (sumP ps i).length c' ∧ OwnsB wr w.heap.size a' (sumP ps i) c' ∧ Below w.heap.size w wr) (fun _ iv _ => j - (intOf iv).toNat)
      case atStart => exact ⟨0, a1, c1, Nat.zero_le _, rfl, rfl, O1.out, B1.out⟩
      case round =>
        clear O1 B1
        obtain ⟨i, a2, c2, hi, rfl, rfl, o2, b2⟩ := hrel
        rename World => wr
        have O2 : Hid (OwnsB wr w.heap.size a2 (sumP ps i) c2) := o2
        have B2 : Hid (Below w.heap.size w wr) := b2
        have zz := b2.size
        clear o2 b2
        have s0 := SL.out i
        by_cases hlt : i < j
        · have hjp : i < ps.length := by have := HN.out; omega
          have hcell0 := (H.out.keep B2.out).cell i hjp
          have hby := (H.out.keep B2.out).byte i hjp
          have hnl := H.out.nil i hjp
          have E := sumP_succ ps i hjp
          obtain ⟨y, hy⟩ : ∃ y, ps[i] = y := ⟨_, rfl⟩
          rw [hy] at hcell0 E hby hnl
          obtain ⟨ya, yc, yl⟩ := y
          have hcell : wr.cell? ⟨g, i, none⟩ = some (.slice ya yl.length yc) := hcell0
          have HB : Hid (IsB wr ya yl) := hby
          have HNL : Hid (ya = none → yl = [] ∧ yc = 0) := hnl
          have EH : Hid (sumP ps (i + 1) = sumP ps i ++ yl) := E
          have s1 := SL.out (i + 1)
          rw [E, List.length_append] at s1
          have s1 : (sumP ps i).length + yl.length ≤ 1000000 := s1
          clear E hy hby hnl hjp hcell0
          go_wp2_with (at_builtin; refine rwpList_app rfl _ _ rfl w.heap.size zz a2 (sumP ps i) c2 rfl O2.out ya yl yc rfl HB.out HNL.out (by omega) ?_; rw [← EH.out]; intro a3 c3 w3 o3 b3; have O3 : Hid (OwnsB w3 w.heap.size a3 (sumP ps (i + 1)) c3) := o3; have B3 : Hid (Below w.heap.size w w3) := B2.out.trans b3; clear o3 b3)
          go_roundw
          case rel => exact ⟨i + 1, a3, c3, by omega, by go_num, rfl, O3.out, B3.out⟩
          case measure => simp [intOf]; omega
        · obtain rfl : i = j := by omega
          go_wp2
          go_ret
          have HN' := HN.out
          subst HN'
          exact ⟨a2, c2, rfl, O2.out, B2.out⟩
end Go.Proofs.YtbfamjnnlcopiaaGreatDoor

/- Layer 17: Body of the code. -/
namespace Go.Proofs.YtbfamjnnlcopiaaGreatDoor
open Go.RowKit
set_option linter.unusedVariables false
set_option maxRecDepth 4000

/-- What Body answers. -/
def outG (m : Im) : List Int := if rightG m = true then bodyG m else []
def errG (m : Im) : Int := if rightG m = true then 0 else 4
theorem out_ok {m : Im} (h : rightG m = true) : outG m = bodyG m ∧ errG m = 0 := ⟨if_pos h, if_pos h⟩
theorem out_no {m : Im} (h : rightG m = false) : outG m = [] ∧ errG m = 4 := ⟨if_neg (by rw [h]; decide), if_neg (by rw [h]; decide)⟩
theorem body_len {m : Im} (h : rightG m = true) : (bodyG m).length ≤ 90000 := by
  obtain ⟨h1, h2, h3, h4⟩ := right_parts.1 h
  have := (size_bd h1).2.2
  have v1 := varL_le m.p
  have v2 := varL_le m.c
  have v3 := varL_le m.s
  have v4 := varL_le (m.base / 256)
  have b1 := bytesT_len m.offs
  have b2 : (bitsG m.c m.live).length = (slN m.c + 7) / 8 := bysL_len _ _
  have := (newE_rt (spOk_iff.1 h1).1).facts.2.1
  simp only [bodyG, List.length_append]
  omega
theorem body_byte {m : Im} (h : rightG m = true) (hb : AllB m.bytes) : AllB (bodyG m) := by
  obtain ⟨h1, h2, h3, h4⟩ := right_parts.1 h
  have r := newE_rt (spOk_iff.1 h1).1
  have hs : 0 ≤ m.s ∧ m.s ≤ 4096 := by
    by_cases hc : m.c < 7
    · have := r.sm hc; omega
    · have := r.lg (by have := r.c7; omega)
      have := pagesN_large this; omega
  have hq : 0 ≤ m.base / 256 ∧ m.base / 256 ≤ 4294967296 := by
    rcases h4 with ⟨g1, g2, g3⟩ | ⟨g, _⟩
    · omega
    · rw [g]; decide
  have p0 := r.p0
  have p1 := r.p1
  have c0 := r.c0
  have c7 := r.c7
  exact AllB.append (varL_byte _ p0 (by omega)) (AllB.append (varL_byte _ c0 (by omega)) (AllB.append (varL_byte _ hs.1 (by omega)) (AllB.append (bys_byte _ _) (AllB.append (varL_byte _ hq.1 (by omega)) (AllB.append (bytesT_byte _) hb)))))
theorem out_byte (m : Im) (hb : AllB m.bytes) : AllB (outG m) := by
  cases h : rightG m
  · rw [(out_no h).1]; exact AllB.nil
  · rw [(out_ok h).1]; exact body_byte h hb
theorem out_len (m : Im) : (outG m).length ≤ 90000 := by
  cases h : rightG m
  · rw [(out_no h).1]; simp
  · rw [(out_ok h).1]; exact body_len h

/-- Seven slices in a new row. -/
theorem isS7 (t : TypeId) (w : World) (x0 x1 x2 x3 x4 x5 x6 : Pc) (h0 : IsB w x0.a x0.l) (h1 : IsB w x1.a x1.l) (h2 : IsB w x2.a x2.l) (h3 : IsB w x3.a x3.l) (h4 : IsB w x4.a x4.l) (h5 : IsB w x5.a x5.l) (h6 : IsB w x6.a x6.l)
    (n0 : x0.a = none → x0.l = [] ∧ x0.c = 0) (n1 : x1.a = none → x1.l = [] ∧ x1.c = 0) (n2 : x2.a = none → x2.l = [] ∧ x2.c = 0) (n3 : x3.a = none → x3.l = [] ∧ x3.c = 0) (n4 : x4.a = none → x4.l = [] ∧ x4.c = 0) (n5 : x5.a = none → x5.l = [] ∧ x5.c = 0) (n6 : x6.a = none → x6.l = [] ∧ x6.c = 0) :
    IsS (w.alloc (.cells #[.slice x0.a x0.l.length x0.c, .slice x1.a x1.l.length x1.c, .slice x2.a x2.l.length x2.c, .slice x3.a x3.l.length x3.c, .slice x4.a x4.l.length x4.c, .slice x5.a x5.l.length x5.c, .slice x6.a x6.l.length x6.c] t)) w.heap.size [x0, x1, x2, x3, x4, x5, x6] := by
  have hb : Below w.heap.size w (w.alloc (.cells #[.slice x0.a x0.l.length x0.c, .slice x1.a x1.l.length x1.c, .slice x2.a x2.l.length x2.c, .slice x3.a x3.l.length x3.c, .slice x4.a x4.l.length x4.c, .slice x5.a x5.l.length x5.c, .slice x6.a x6.l.length x6.c] t)) := (Below.refl _ w).alloc (Nat.le_refl _) _
  have hr := Go.heap_alloc_new w (.cells #[.slice x0.a x0.l.length x0.c, .slice x1.a x1.l.length x1.c, .slice x2.a x2.l.length x2.c, .slice x3.a x3.l.length x3.c, .slice x4.a x4.l.length x4.c, .slice x5.a x5.l.length x5.c, .slice x6.a x6.l.length x6.c] t)
  refine ⟨fun i hi => ?_, fun i hi => ?_, fun i hi => ?_⟩
  · have hi : i < 7 := hi
    rcases i with _ | _ | _ | _ | _ | _ | _ | i
    · exact cell_of_row _ _ 0 _ _ _ hr
    · exact cell_of_row _ _ 1 _ _ _ hr
    · exact cell_of_row _ _ 2 _ _ _ hr
    · exact cell_of_row _ _ 3 _ _ _ hr
    · exact cell_of_row _ _ 4 _ _ _ hr
    · exact cell_of_row _ _ 5 _ _ _ hr
    · exact cell_of_row _ _ 6 _ _ _ hr
    · omega
  · have hi : i < 7 := hi
    rcases i with _ | _ | _ | _ | _ | _ | _ | i
    · exact h0.keep hb
    · exact h1.keep hb
    · exact h2.keep hb
    · exact h3.keep hb
    · exact h4.keep hb
    · exact h5.keep hb
    · exact h6.keep hb
    · omega
  · have hi : i < 7 := hi
    rcases i with _ | _ | _ | _ | _ | _ | _ | i
    · exact n0
    · exact n1
    · exact n2
    · exact n3
    · exact n4
    · exact n5
    · exact n6
    · omega

theorem isS7' (t : TypeId) (w : World) (a0 a1 a2 a3 a4 a5 a6 : Option Addr) (k0 k1 k2 k3 k4 k5 k6 m3 : Nat) (l0 l1 l2 l3 l4 l5 l6 : List Int) (h0 : IsB w a0 l0) (h1 : IsB w a1 l1) (h2 : IsB w a2 l2) (h3 : IsB w a3 l3) (h4 : IsB w a4 l4) (h5 : IsB w a5 l5) (h6 : IsB w a6 l6)
    (n0 : a0 = none → l0 = [] ∧ k0 = 0) (n1 : a1 = none → l1 = [] ∧ k1 = 0) (n2 : a2 = none → l2 = [] ∧ k2 = 0) (n3 : a3 = none → l3 = [] ∧ k3 = 0) (n4 : a4 = none → l4 = [] ∧ k4 = 0) (n5 : a5 = none → l5 = [] ∧ k5 = 0) (n6 : a6 = none → l6 = [] ∧ k6 = 0) (hm : m3 = l3.length) :
    IsS (w.alloc (.cells #[.slice a0 l0.length k0, .slice a1 l1.length k1, .slice a2 l2.length k2, .slice a3 m3 k3, .slice a4 l4.length k4, .slice a5 l5.length k5, .slice a6 l6.length k6] t)) w.heap.size [⟨a0, k0, l0⟩, ⟨a1, k1, l1⟩, ⟨a2, k2, l2⟩, ⟨a3, k3, l3⟩, ⟨a4, k4, l4⟩, ⟨a5, k5, l5⟩, ⟨a6, k6, l6⟩] := by
  subst hm
  exact isS7 t w ⟨a0, k0, l0⟩ ⟨a1, k1, l1⟩ ⟨a2, k2, l2⟩ ⟨a3, k3, l3⟩ ⟨a4, k4, l4⟩ ⟨a5, k5, l5⟩ ⟨a6, k6, l6⟩ h0 h1 h2 h3 h4 h5 h6 n0 n1 n2 n3 n4 n5 n6
/-- Concat of seven pieces. -/
theorem concat7 (g : Nat) (a0 a1 a2 a3 a4 a5 a6 : Option Addr) (k0 k1 k2 k3 k4 k5 k6 : Nat) (l0 l1 l2 l3 l4 l5 l6 X : List Int) (w : World) (h : IsS w g [⟨a0, k0, l0⟩, ⟨a1, k1, l1⟩, ⟨a2, k2, l2⟩, ⟨a3, k3, l3⟩, ⟨a4, k4, l4⟩, ⟨a5, k5, l5⟩, ⟨a6, k6, l6⟩]) (hX : X = l0 ++ (l1 ++ (l2 ++ (l3 ++ (l4 ++ (l5 ++ l6)))))) (hl : X.length ≤ 1000000) :
    Calls Tryz.prog 46 #[.slice (some ⟨g, 0, none⟩) 7 7] w fun e w' => ∃ a' c', e = .returned (.slice a' X.length c') ∧ OwnsB w' w.heap.size a' X c' ∧ Below w.heap.size w w' := by
  have e : sumP [⟨a0, k0, l0⟩, ⟨a1, k1, l1⟩, ⟨a2, k2, l2⟩, ⟨a3, k3, l3⟩, ⟨a4, k4, l4⟩, ⟨a5, k5, l5⟩, ⟨a6, k6, l6⟩] 7 = X := by rw [hX]; simp [sumP]
  have := concat_any g 7 7 [⟨a0, k0, l0⟩, ⟨a1, k1, l1⟩, ⟨a2, k2, l2⟩, ⟨a3, k3, l3⟩, ⟨a4, k4, l4⟩, ⟨a5, k5, l5⟩, ⟨a6, k6, l6⟩] w rfl h (by show 7 ≤ 100; omega) (by show (sumP _ 7).length ≤ _; rw [e]; exact hl)
  rw [show ([⟨a0, k0, l0⟩, ⟨a1, k1, l1⟩, ⟨a2, k2, l2⟩, ⟨a3, k3, l3⟩, ⟨a4, k4, l4⟩, ⟨a5, k5, l5⟩, ⟨a6, k6, l6⟩] : List Pc).length = 7 from rfl, e] at this
  exact this

set_option maxRecDepth 20000 in
set_option maxHeartbeats 8000000 in
theorem ibody_any (p c s base : Int) (la oa ba : Option Addr) (lc oc bc : Nat) (live offs bytes : List Int) (w : World)
    (hT : Tabs w) (hL : IsI w la live) (hO : IsI w oa offs) (hB : IsB w ba bytes) (hnb : ba = none → bytes = [] ∧ bc = 0) (hml : live.length ≤ maxLen) (hmo : offs.length ≤ maxLen) (hmb : bytes.length ≤ maxLen) (hp : i64' p) :
    Calls Tryz.prog 16 #[.agg #[.int .i64 p, .int .i64 c, .int .i64 s, .slice la live.length lc, .int .i64 base, .slice oa offs.length oc, .slice ba bytes.length bc]] w fun e w' =>
      ∃ a' c', e = .returned (.tuple #[.slice a' (outG ⟨p, c, s, live, base, offs, bytes⟩).length c', .int .i64 (errG ⟨p, c, s, live, base, offs, bytes⟩)]) ∧ OwnsB w' w.heap.size a' (outG ⟨p, c, s, live, base, offs, bytes⟩) c' ∧ Below w.heap.size w w' := by
  obtain ⟨D, hD, zD, rD, bD⟩ := ibox 35 w p c s la live.length lc base oa offs.length oc ba bytes.length bc
  have HD : Hid (w.alloc (.cells #[.int .i64 p, .int .i64 c, .int .i64 s, .slice la live.length lc, .int .i64 base, .slice oa offs.length oc, .slice ba bytes.length bc] 35) = D) := hD
  have BD : Hid (Below w.heap.size w D) := bD
  have TD : Hid (Tabs D) := hT.keep bD
  have LD : Hid (IsI D la live) := hL.keep bD
  have OD : Hid (IsI D oa offs) := hO.keep bD
  have YD : Hid (IsB D ba bytes) := hB.keep bD
  have CD : Hid (Ic D w.heap.size p c s la live.length lc base oa offs.length oc ba bytes.length bc) := icell rD
  obtain ⟨c0, c1, c2, c3, c4, c5, c6⟩ := icell rD
  have HML : Hid (live.length ≤ maxLen) := hml
  have HMO : Hid (offs.length ≤ maxLen) := hmo
  have HMB : Hid (bytes.length ≤ maxLen) := hmb
  have HP : Hid (i64' p) := hp
  have HNB : Hid (ba = none → bytes = [] ∧ bc = 0) := hnb
  clear hD zD rD bD hT hL hO hB hml hmo hmb hp hnb
  cases h : rightG ⟨p, c, s, live, base, offs, bytes⟩
  · obtain ⟨e1, e2⟩ := out_no h
    have H : Hid (rightG ⟨p, c, s, live, base, offs, bytes⟩ = false) := h
    rw [e1, e2]
    clear h e1 e2
    go_enter Tryz.func16, Tryz.ntmps16
    go_upto_region 1 with (fail)
    rw [HD.out]
    go_wp2_with (go_at_call 44; refine (iright_any p c s base la oa ba _ lc _ oc _ bc live offs bytes false D rfl rfl rfl H.out TD.out LD.out OD.out HML.out HMO.out HMB.out HP.out).mono ?_; rintro e w1 ⟨rfl, b1⟩; have B1 : Hid (Below w.heap.size w w1) := BD.out.trans (b1.mono BD.out.size); clear b1)
    go_ret2
    exact ⟨none, 0, rfl, World.ownsRow_nil _ _ _ _, B1.out⟩
  obtain ⟨e1, e2⟩ := out_ok h
  have H : Hid (rightG ⟨p, c, s, live, base, offs, bytes⟩ = true) := h
  obtain ⟨h1, h2, h3, h4⟩ := right_parts.1 h
  have h1 : spOk p c s live = true := h1
  have H1 : Hid (spOk p c s live = true) := h1
  have r := newE_rt (spOk_iff.1 h1).1
  have hs : 0 ≤ s ∧ s ≤ 4096 := by
    by_cases hc : c < 7
    · have := r.sm hc; omega
    · have := r.lg (by have := r.c7; omega)
      have := pagesN_large this; omega
  have hq : 0 ≤ base ∧ base ≤ 1099511627776 := by
    rcases h4 with ⟨g1, g2, g3⟩ | ⟨g, _⟩
    · have g1 : 256 ≤ base := g1
      have g2 : base ≤ 1099511627776 := g2
      omega
    · have g : base = 0 := g
      omega
  obtain ⟨s0, s1⟩ := hs
  obtain ⟨q0, q1⟩ := hq
  have p0 := r.p0
  have p1 := r.p1
  have y0 := r.c0
  have y1 := r.c7
  have p2 : p ≤ 4096 := by omega
  have hsz := (size_bd h1).2.2
  have h3 : rrightT (bytes.length : Nat) offs = true := h3
  have h2 : (bytes.length : Int) = sizeG p c s live := h2
  have T0 : Hid (bytesT offs = bytesT offs ∧ errT offs = 0) := ⟨rfl, (bytesT_ok (right_wide (by omega) h3)).2⟩
  have BL := body_len h
  obtain ⟨X, hX⟩ : ∃ X, bodyG ⟨p, c, s, live, base, offs, bytes⟩ = X := ⟨_, rfl⟩
  have EX : Hid (X = varL p ++ (varL c ++ (varL s ++ (bitsG c live ++ (varL (base / 256) ++ (bytesT offs ++ bytes)))))) := by show _ = _; rw [← hX]; rfl
  have K3 : Hid ((slN c + 7) / 8 = (bitsG c live).length) := (bysL_len _ _).symm
  have u1 : IntKind.u64.wrap p = p := by rw [IntKind.wrap_u64]; omega
  have u2 : IntKind.u64.wrap c = c := by rw [IntKind.wrap_u64]; omega
  have u3 : IntKind.u64.wrap s = s := by rw [IntKind.wrap_u64]; omega
  have U4 : Hid (IntKind.u64.wrap (IntKind.i64.wrap (base.tdiv 256)) = base / 256) := by show _ = _; rw [Int.tdiv_eq_ediv_of_nonneg q0, IntKind.wrap_i64, IntKind.wrap_u64]; omega
  have NK : Hid (∀ wz, Below D.heap.size D wz → wz.cell? ⟨w.heap.size, 0, none⟩ = some (.int .i64 p) ∧ wz.cell? ⟨w.heap.size, 1, none⟩ = some (.int .i64 c) ∧ wz.cell? ⟨w.heap.size, 2, none⟩ = some (.int .i64 s) ∧ wz.cell? ⟨w.heap.size, 3, none⟩ = some (.slice la live.length lc) ∧ wz.cell? ⟨w.heap.size, 4, none⟩ = some (.int .i64 base) ∧ wz.cell? ⟨w.heap.size, 6, none⟩ = some (.slice ba bytes.length bc)) := fun wz b => ⟨(CD.out.keep b).c0, (CD.out.keep b).c1, (CD.out.keep b).c2, (CD.out.keep b).c3, (CD.out.keep b).c4, (CD.out.keep b).c6⟩
  rw [hX] at BL
  have BL' : X.length ≤ 1000000 := by omega
  rw [e1, e2, hX]
  clear h e1 e2 h1 h2 h3 h4 r hsz BL hX
  go_enter Tryz.func16, Tryz.ntmps16
  go_upto_region 1 with (fail)
  rw [HD.out]
  go_wp2_with (first
    | (go_at_call 44; refine (iright_any p c s base la oa ba _ lc _ oc _ bc live offs bytes true D rfl rfl rfl H.out TD.out LD.out OD.out HML.out HMO.out HMB.out HP.out).mono ?_; rintro e w1 ⟨rfl, b1⟩; have B1 : Hid (Below D.heap.size D w1) := b1; have C1 : Hid (Ic w1 w.heap.size p c s la live.length lc base oa offs.length oc ba bytes.length bc) := CD.out.keep b1; have d5 := C1.out.c5; clear b1)
    | (go_at_call 45; refine (obytes_any oa oc offs _ (OD.out.keep B1.out) HMO.out).mono ?_; rw [T0.out.2]; rintro e w2 ⟨a2, k2, rfl, o2, b2⟩; have B2 : Hid (Below D.heap.size D w2) := B1.out.trans (b2.mono B1.out.size); have O2 : Hid (IsB w2 a2 (bytesT offs)) := ownsB_isB (bytesT_byte _) o2; have M2 : Hid (a2 = none → bytesT offs = [] ∧ k2 = 0) := (rownsB_isL o2).2.2; clear o2 b2 c0 c1 c2 c3 c4 c5 c6 d5))
  go_region_held3 (fun wz => wz.cell? ⟨w.heap.size, 0, none⟩ = some (.int .i64 p) ∧ wz.cell? ⟨w.heap.size, 1, none⟩ = some (.int .i64 c) ∧ wz.cell? ⟨w.heap.size, 2, none⟩ = some (.int .i64 s) ∧ wz.cell? ⟨w.heap.size, 3, none⟩ = some (.slice la live.length lc) ∧ wz.cell? ⟨w.heap.size, 4, none⟩ = some (.int .i64 base) ∧ wz.cell? ⟨w.heap.size, 6, none⟩ = some (.slice ba bytes.length bc))
    (with_reducible first | exact NK.out _ B8.out | exact NK.out _ (B7.out.alloc B7.out.size _) | exact NK.out _ B7.out | exact NK.out _ B6.out | exact NK.out _ B5.out | exact NK.out _ B4.out | exact NK.out _ B3.out | exact NK.out _ (Below.toDrew B2.out) | fail)
    (first
    | (go_at_call 46; have z7 := B7.out; refine (concat7 _ _ _ _ _ _ _ _ _ _ _ _ _ _ _ _ _ _ _ _ _ _ X _ S7.out EX.out BL').mono ?_; rintro e w8 ⟨a8, k8, rfl, o8, b8⟩; have B8 : Hid (Below D.heap.size D w8) := (B7.out.alloc B7.out.size _).trans (b8.mono (by have := B7.out.size; simp; omega)); have O8 : Hid (OwnsB w8 w.heap.size a8 X k8) := OwnsB.mono o8 (by have := B7.out.size; have := BD.out.size; simp; omega); clear o8 b8)
    | (go_at_call 47; have z6 := B6.out; rw [U4.out]; refine (var_any (base / 256) _ (by omega) (by omega)).mono ?_; rintro e w7 ⟨rfl, o7, b7⟩; have B7 : Hid (Below D.heap.size D w7) := B6.out.trans (b7.mono B6.out.size); have V7 : IsB w7 (some ⟨w6.heap.size, 0, none⟩) (varL (base / 256)) := ownsB_isB (varL_byte _ (by omega) (by omega)) o7; have S7 : Hid (IsS _ w7.heap.size _) := isS7' 25 w7 (some ⟨w2.heap.size, 0, none⟩) (some ⟨w3.heap.size, 0, none⟩) (some ⟨w4.heap.size, 0, none⟩) (some ⟨g6, 0, none⟩) (some ⟨w6.heap.size, 0, none⟩) a2 ba (varL p).length (varL c).length (varL s).length ((slN c + 7) / 8) (varL (base / 256)).length k2 bc ((slN c + 7) / 8) (varL p) (varL c) (varL s) (bitsG c live) (varL (base / 256)) (bytesT offs) bytes (V6.out.1.keep b7) (V6.out.2.1.keep b7) (V6.out.2.2.1.keep b7) (V6.out.2.2.2.1.keep b7) V7 (V6.out.2.2.2.2.keep b7) (YD.out.keep B7.out) (fun h => by cases h) (fun h => by cases h) (fun h => by cases h) (fun h => by cases h) (fun h => by cases h) M2.out HNB.out K3.out; clear o7 b7 V7)
    | (go_at_call 48; have z5 := B5.out; refine (ilive_any p c s la _ lc live _ rfl (TD.out.keep B5.out) (LD.out.keep B5.out) HML.out H1.out).mono ?_; rintro e w6 ⟨g6, rfl, i6, b6⟩; have B6 : Hid (Below D.heap.size D w6) := B5.out.trans (b6.mono B5.out.size); have V6 : Hid (IsB w6 (some ⟨w2.heap.size, 0, none⟩) (varL p) ∧ IsB w6 (some ⟨w3.heap.size, 0, none⟩) (varL c) ∧ IsB w6 (some ⟨w4.heap.size, 0, none⟩) (varL s) ∧ IsB w6 (some ⟨g6, 0, none⟩) (bitsG c live) ∧ IsB w6 a2 (bytesT offs)) := ⟨V5.out.1.keep b6, V5.out.2.1.keep b6, V5.out.2.2.1.keep b6, i6, V5.out.2.2.2.keep b6⟩; clear i6 b6)
    | (go_at_call 47; have z4 := B4.out; refine (var_any s _ (by omega) (by omega)).mono ?_; rintro e w5 ⟨rfl, o5, b5⟩; have B5 : Hid (Below D.heap.size D w5) := B4.out.trans (b5.mono B4.out.size); have V5 : Hid (IsB w5 (some ⟨w2.heap.size, 0, none⟩) (varL p) ∧ IsB w5 (some ⟨w3.heap.size, 0, none⟩) (varL c) ∧ IsB w5 (some ⟨w4.heap.size, 0, none⟩) (varL s) ∧ IsB w5 a2 (bytesT offs)) := ⟨V4.out.1.keep b5, V4.out.2.1.keep b5, ownsB_isB (varL_byte _ (by omega) (by omega)) o5, V4.out.2.2.keep b5⟩; clear o5 b5)
    | (go_at_call 47; have z3 := B3.out; refine (var_any c _ (by omega) (by omega)).mono ?_; rintro e w4 ⟨rfl, o4, b4⟩; have B4 : Hid (Below D.heap.size D w4) := B3.out.trans (b4.mono B3.out.size); have V4 : Hid (IsB w4 (some ⟨w2.heap.size, 0, none⟩) (varL p) ∧ IsB w4 (some ⟨w3.heap.size, 0, none⟩) (varL c) ∧ IsB w4 a2 (bytesT offs)) := ⟨V3.out.1.keep b4, ownsB_isB (varL_byte _ (by omega) (by omega)) o4, V3.out.2.keep b4⟩; clear o4 b4)
    | (go_at_call 47; refine (var_any p _ (by omega) (by omega)).mono ?_; rintro e w3 ⟨rfl, o3, b3⟩; have B3 : Hid (Below D.heap.size D w3) := B2.out.trans ((Below.ofDrew b3).mono B2.out.size); have V3 : Hid (IsB w3 (some ⟨w2.heap.size, 0, none⟩) (varL p) ∧ IsB w3 a2 (bytesT offs)) := ⟨ownsB_isB (varL_byte _ (by omega) (by omega)) o3, O2.out.keep (Below.ofDrew b3)⟩; clear o3 b3))
  go_wp2
  go_ret2
  exact ⟨a8, k8, rfl, O8.out, BD.out.trans (B8.out.mono BD.out.size)⟩
end Go.Proofs.YtbfamjnnlcopiaaGreatDoor
