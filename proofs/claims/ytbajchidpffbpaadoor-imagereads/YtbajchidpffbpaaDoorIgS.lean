/- The walk of ImageReads. -/
import Derived.Test.YtbajchidpffbpaaDoorIgK
import Derived.Test.YtbajchidpffbpaaDoorIgN
import Derived.Test.YtbajchidpffbpaaDoorIgO
import Derived.Laws.OwnMore
namespace Go.Proofs.YtbajchidpffbpaaDoor
open Go.RowKit
set_option linter.unusedVariables false
set_option maxRecDepth 4000

/-- Under way: the bytes of what was read are turned, one by one. -/
structure Ph (w wr : World) (base g n bc N g2 : Nat) (a : Option Addr) (l : List Int) : Prop where
  own : ∃ L : List Int, L.length = n ∧ OwnsB wr base (some ⟨g, 0, none⟩) L bc
  c6 : wr.cell? ⟨N, 6, none⟩ = some (.slice (some ⟨g, 0, none⟩) n bc)
  inb : IsB wr (some ⟨g2, 0, none⟩) l
  arg : IsB wr a l
  low : Below w.heap.size w wr
theorem Ph.at {w wr : World} {base g n bc N g2 : Nat} {a : Option Addr} {l : List Int} (h : Ph w wr base g n bc N g2 a l) (j : Nat) (hj : j < n) : ∃ x, wr.cell? ⟨g, j, none⟩ = some (.int .u8 x) ∧ wr.frozen? ⟨g, j, none⟩ = false := by
  obtain ⟨L, hL, o⟩ := h.own
  have e := World.ownsRow.cellAt o j (by rw [hL]; omega)
  refine ⟨L[j]'(by omega), ?_, World.ownsRow.frozenAt o j⟩
  rw [e]
  simp [hL, hj]
theorem Ph.drew {w wr : World} {base g n bc N g2 : Nat} {a : Option Addr} {l : List Int} (h : Ph w wr base g n bc N g2 a l) : Ph w wr.drew base g n bc N g2 a l := ⟨h.own, h.c6, h.inb, h.arg, Below.toDrew h.low⟩
theorem Ph.set {w wr : World} {base g n bc N g2 : Nat} {a : Option Addr} {l : List Int} (h : Ph w wr base g n bc N g2 a l) (j : Nat) (y : Int) (hN : N ≠ g) (h2 : g2 ≠ g) (ha : l = [] ∨ ∀ ad, a = some ad → ad.block ≠ g) (hb : w.heap.size ≤ g) : Ph w (wr.setCell ⟨g, j, none⟩ (.int .u8 y)) base g n bc N g2 a l := by
  obtain ⟨L, hL, o⟩ := h.own
  have t : Tg g wr (wr.setCell ⟨g, j, none⟩ (.int .u8 y)) := Tg.ofOnly (Only.set g j _ _)
  refine ⟨⟨L.set j y, by rw [List.length_set]; exact hL, ?_⟩, t.cell h.c6 hN, t.isB h.inb (fun ad e => by cases e; exact h2), (ha.elim (fun q => by subst q; exact IsB.nil _ _) (fun q => t.isB h.arg q)), h.low.trans (t.below hb h.low.size)⟩
  have := (World.ownsRow.stored o j (.int .u8 y)).1
  unfold OwnsB
  rw [List.length_set, List.map_set]
  exact this

set_option maxRecDepth 20000 in
set_option maxHeartbeats 8000000 in
theorem imageReads_any (a : Option Addr) (k : Nat) (l : List Int) (w : World) (h : IsB w a l) (hm : l.length ≤ 140737488355328) (hn : a = none → l = [] ∧ k = 0) (hT : Tabs w) :
    Calls Tryd.prog 4 #[.slice a l.length k] w fun e w' => e = .returned (.bool true) ∧ Below w.heap.size w w' := by
  have HB : Hid (IsB w a l) := h
  have HT : Hid (Tabs w) := hT
  have AB : Hid (AllB l) := h.1
  have AW : Hid (l = [] ∨ ∀ ad, a = some ad → ad.block < w.heap.size) := by
    show _ ∨ _
    obtain ⟨_, q | ⟨b, off, rfl, q, _⟩⟩ := h
    · exact .inl q
    · exact .inr fun ad e => by cases e; exact q
  clear h hn hT
  go_enter Tryd.func4, Tryd.ntmps4
  go_wp2_with fail
  refine (alive_any17 _ HT.out).mono ?_
  rintro e w1 ⟨rfl, b1⟩
  have B1 : Hid (Below w.heap.size w w1) := b1
  have I1 : Hid (IsB w1 a l) := HB.out.keep b1
  have T1 : Hid (Tabs w1) := HT.out.keep b1
  clear b1
  go_wp2_with fail
  refine (copy_any a k l.length l _ rfl I1.out hm).mono ?_
  rintro e w2 ⟨g2, c2, rfl, o2, b2⟩
  have I2 : Hid (IsB w2 (some ⟨g2, 0, none⟩) l) := ownsB_isB AB.out o2
  have B2 : Hid (Below w1.heap.size w1 w2) := b2
  have G2 : Hid (g2 < w2.heap.size) := by
    show _ < _
    obtain ⟨_, ⟨q, _⟩ | ⟨g', c', cur, q, _, q2, _⟩⟩ := o2
    · cases q
    · cases q; exact row_lt q2
  clear o2 b2
  go_wp2_with fail
  refine (iread_any (some ⟨g2, 0, none⟩) c2 l _ I2.out hm (fun h => by cases h) (T1.out.keep B2.out)).mono ?_
  rintro e w3 ⟨m, er, la, lc, oa, oc, ba, bc, hR, rfl, iL, iO, iF, b3, q16, q81, q40, qp, qa⟩
  obtain ⟨p, c, s, live, base, offs, bytes⟩ := m
  obtain ⟨X3, eX, zX, rX, bX⟩ := ibox 32 w3 p c s la live.length lc base oa offs.length oc ba bytes.length bc
  have EX : Hid (w3.alloc (.cells #[.int .i64 p, .int .i64 c, .int .i64 s, .slice la live.length lc, .int .i64 base, .slice oa offs.length oc, .slice ba bytes.length bc] 32) = X3) := eX
  have BX : Hid (Below w2.heap.size w2 X3) := b3.trans (bX.mono b3.size)
  have CX : Hid (Ic X3 w3.heap.size p c s la live.length lc base oa offs.length oc ba bytes.length bc) := icell rX
  have IL : Hid (IsI X3 la live) := IsI.keep iL bX
  have IO : Hid (IsI X3 oa offs) := IsI.keep iO bX
  have FB : Hid (FreshB X3 w2.heap.size ba bytes bc) := freshB_keep iF bX
  have QA : Hid (AllB bytes) := qa
  have HR : Hid (readG l = (⟨p, c, s, live, base, offs, bytes⟩, er)) := hR
  have Q1 : Hid (live.length ≤ maxLen) := by have q16 : live.length ≤ 16 := q16; show _ ≤ _; unfold maxLen; omega
  have Q2 : Hid (offs.length ≤ maxLen) := by have q81 : offs.length ≤ 8192 := q81; show _ ≤ _; unfold maxLen; omega
  have q40 : bytes.length ≤ 4096 := q40
  have BW3 : Hid (Below w.heap.size w X3) := B1.out.trans ((B2.out.trans (BX.out.mono B2.out.size)).mono B1.out.size)
  have FN : Hid (∀ g, ba = some ⟨g, 0, none⟩ → bytes ≠ [] → g < w3.heap.size) := fun g e hne => by
    rcases iF with ⟨q, _⟩ | ⟨g', q, _, q2⟩
    · exact absurd q hne
    · rw [e] at q
      cases q
      obtain ⟨_, ⟨q, _⟩ | ⟨g', c', cur, q, _, q2, _⟩⟩ := q2
      · cases q
      · cases q; exact row_lt q2
  obtain ⟨N, hN⟩ : ∃ N, w3.heap.size = N := ⟨_, rfl⟩
  rw [hN] at CX FN
  have W23 : Hid (w2.heap.size ≤ N) := by show _ ≤ _; rw [← hN]; exact b3.size
  clear iL iO iF b3 q16 q81 qp qa hR eX zX rX bX
  go_upto_region 5 with (fail)
  rw [EX.out]
  go_wp2_with fail
  refine (dread_any a k l _ (I1.out.keep (B2.out.trans (BX.out.mono B2.out.size))) hm).mono ?_
  rintro e w4 ⟨m, er', la', lc', oa', oc', ba', bc', hR, rfl, iL, iO, iF, b4, q16, q81, q40'⟩
  rw [HR.out] at hR
  simp only [Prod.mk.injEq] at hR
  obtain ⟨rfl, rfl⟩ := hR
  obtain ⟨X5, eX, zX, rX, bX⟩ := ibox 36 w4 p c s la' live.length lc' base oa' offs.length oc' ba' bytes.length bc'
  have EX5 : Hid (w4.alloc (.cells #[.int .i64 p, .int .i64 c, .int .i64 s, .slice la' live.length lc', .int .i64 base, .slice oa' offs.length oc', .slice ba' bytes.length bc'] 36) = X5) := eX
  have BX5 : Hid (Below X3.heap.size X3 X5) := b4.trans (bX.mono b4.size)
  have CX3 : Hid (Ic X5 N p c s la live.length lc base oa offs.length oc ba bytes.length bc) := CX.out.keep BX5.out
  have CX5 : Hid (Ic X5 w4.heap.size p c s la' live.length lc' base oa' offs.length oc' ba' bytes.length bc') := icell rX
  have IL1 : Hid (IsI X5 la live) := IL.out.keep BX5.out
  have IO1 : Hid (IsI X5 oa offs) := IO.out.keep BX5.out
  have FB5 : Hid (FreshB X5 w2.heap.size ba bytes bc) := freshB_keep FB.out BX5.out
  have IB1 : Hid (IsB X5 ba bytes) := freshB_isB FB5.out QA.out
  have IL2 : Hid (IsI X5 la' live) := IsI.keep iL bX
  have IO2 : Hid (IsI X5 oa' offs) := IsI.keep iO bX
  have IB2 : Hid (IsB X5 ba' bytes) := IsB.keep iF bX
  have BW5 : Hid (Below w.heap.size w X5) := BW3.out.trans (BX5.out.mono BW3.out.size)
  have IN5 : Hid (IsB X5 (some ⟨g2, 0, none⟩) l) := I2.out.keep (BX.out.trans (BX5.out.mono BX.out.size))
  have IA5 : Hid (IsB X5 a l) := HB.out.keep BW5.out
  obtain ⟨N5, hN5⟩ : ∃ N5, w4.heap.size = N5 := ⟨_, rfl⟩
  rw [hN5] at CX5
  have NK : Hid (∀ wz, Below X5.heap.size X5 wz → (wz.cell? ⟨N, 0, none⟩ = some (.int .i64 p) ∧ wz.cell? ⟨N, 1, none⟩ = some (.int .i64 c) ∧ wz.cell? ⟨N, 2, none⟩ = some (.int .i64 s) ∧ wz.cell? ⟨N, 3, none⟩ = some (.slice la live.length lc) ∧ wz.cell? ⟨N, 4, none⟩ = some (.int .i64 base) ∧ wz.cell? ⟨N, 5, none⟩ = some (.slice oa offs.length oc) ∧ wz.cell? ⟨N, 6, none⟩ = some (.slice ba bytes.length bc)) ∧ (wz.cell? ⟨N5, 0, none⟩ = some (.int .i64 p) ∧ wz.cell? ⟨N5, 1, none⟩ = some (.int .i64 c) ∧ wz.cell? ⟨N5, 2, none⟩ = some (.int .i64 s) ∧ wz.cell? ⟨N5, 3, none⟩ = some (.slice la' live.length lc') ∧ wz.cell? ⟨N5, 4, none⟩ = some (.int .i64 base) ∧ wz.cell? ⟨N5, 5, none⟩ = some (.slice oa' offs.length oc') ∧ wz.cell? ⟨N5, 6, none⟩ = some (.slice ba' bytes.length bc'))) := fun wz b => by
    obtain ⟨j0, j1, j2, j3, j4, j5, j6⟩ := CX3.out.keep b
    obtain ⟨k0, k1, k2, k3, k4, k5, k6⟩ := CX5.out.keep b
    exact ⟨⟨j0, j1, j2, j3, j4, j5, j6⟩, ⟨k0, k1, k2, k3, k4, k5, k6⟩⟩
  clear iL iO iF b4 q16 q81 q40' eX zX rX bX
  go_upto_region 6 with (fail)
  rw [EX5.out]
  go_wp2_with fail
  go_region_held3 (fun wz => (wz.cell? ⟨N, 0, none⟩ = some (.int .i64 p) ∧ wz.cell? ⟨N, 1, none⟩ = some (.int .i64 c) ∧ wz.cell? ⟨N, 2, none⟩ = some (.int .i64 s) ∧ wz.cell? ⟨N, 3, none⟩ = some (.slice la live.length lc) ∧ wz.cell? ⟨N, 4, none⟩ = some (.int .i64 base) ∧ wz.cell? ⟨N, 5, none⟩ = some (.slice oa offs.length oc) ∧ wz.cell? ⟨N, 6, none⟩ = some (.slice ba bytes.length bc)) ∧ (wz.cell? ⟨N5, 0, none⟩ = some (.int .i64 p) ∧ wz.cell? ⟨N5, 1, none⟩ = some (.int .i64 c) ∧ wz.cell? ⟨N5, 2, none⟩ = some (.int .i64 s) ∧ wz.cell? ⟨N5, 3, none⟩ = some (.slice la' live.length lc') ∧ wz.cell? ⟨N5, 4, none⟩ = some (.int .i64 base) ∧ wz.cell? ⟨N5, 5, none⟩ = some (.slice oa' offs.length oc') ∧ wz.cell? ⟨N5, 6, none⟩ = some (.slice ba' bytes.length bc')))
    (with_reducible first | exact NK.out _ B7.out | exact NK.out _ B6.out | exact NK.out _ ((Below.refl _ X5).drew) | exact NK.out _ (Below.toDrew (Below.refl _ X5)) | fail)
    (first
    | (go_at_call 18; refine (dsame_true p c s base la oa ba la' oa' ba' lc oc bc lc' oc' bc' live offs bytes _ (IL1.out.keep B6.out) (IL2.out.keep B6.out) (IO1.out.keep B6.out) (IO2.out.keep B6.out) (IB1.out.keep B6.out) (IB2.out.keep B6.out) Q1.out Q2.out).mono ?_; rintro e w7 ⟨rfl, b7⟩; have B7 : Hid (Below X5.heap.size X5 w7) := B6.out.trans (b7.mono B6.out.size); clear b7)
    | (go_at_call 19; refine (own_any17 p c s base la oa ba _ lc _ oc _ bc _).mono ?_; rintro e w6 ⟨rfl, b6⟩; have B6 : Hid (Below X5.heap.size X5 w6) := Below.ofDrew b6; clear b6))
  have j6 := (CX3.out.keep B7.out).c6
  have BW7 : Hid (Below w.heap.size w w7) := BW5.out.trans (B7.out.mono BW5.out.size)
  rcases freshB_keep FB5.out B7.out with ⟨rfl, rfl, rfl⟩ | ⟨g, rfl, hg, og⟩
  · go_wp2
    refine wp_loop_rounds 1 ?_
    rw [rounds_succ]
    go_wp2_with (go_at_call 12; refine (rsame_true (some ⟨g2, 0, none⟩) a _ _ c2 k l _ (IN5.out.keep B7.out) (IA5.out.keep B7.out) rfl rfl).mono ?_; rintro e w8 ⟨rfl, rfl⟩)
    go_ret
    exact ⟨rfl, BW7.out⟩
  · obtain ⟨n, hn⟩ : ∃ n, bytes.length = n := ⟨_, rfl⟩
    have P0 : Hid (Ph w w7 w2.heap.size g n bc N g2 a l) := ⟨⟨bytes, hn, og⟩, by rw [← hn]; exact j6, IN5.out.keep B7.out, IA5.out.keep B7.out, BW7.out⟩
    have NE : Hid (0 < n → N ≠ g ∧ g2 ≠ g ∧ w.heap.size ≤ g) := fun hp => by
      have hne : bytes ≠ [] := fun e => by rw [e] at hn; simp at hn; omega
      have := FN.out g rfl hne
      have := G2.out
      have := B1.out.size
      have := B2.out.size
      omega
    have NA : Hid (0 < n → l ≠ [] → ∀ ad, a = some ad → ad.block ≠ g) := fun hp hl ad e => by
      rcases AW.out with q | q
      · exact absurd q hl
      · have := q ad e
        have := (NE.out hp).2.2
        omega
    have n46 : n ≤ 4096 := by omega
    rw [hn] at j6
    rw [hn]
    clear hg og
    go_wp2
    go_loopw [36] (fun iv wr => ∃ i : Nat, i ≤ n ∧ iv = .int .i64 (i : Nat) ∧ Ph w wr w2.heap.size g n bc N g2 a l) (fun iv _ => n - (intOf iv).toNat)
    case atStart => exact ⟨0, Nat.zero_le _, rfl, P0.out⟩
    case round =>
      clear j6
      obtain ⟨i, hi, rfl, ph⟩ := hrel
      rename World => wr
      have PH : Hid (Ph w wr w2.heap.size g n bc N g2 a l) := ph
      have q6 := ph.c6
      by_cases hlt : i < n
      · obtain ⟨x, hx, hfz⟩ := ph.at i hlt
        have i0 : (i : Int) < (n : Int) := by omega
        obtain ⟨ne1, ne2, ne3⟩ := NE.out (by omega)
        obtain ⟨y, hy⟩ : ∃ y, IntKind.u8.wrap (x + 1) = y := ⟨_, rfl⟩
        have PN : Hid (Ph w (wr.setCell ⟨g, i, none⟩ (.int .u8 y)) w2.heap.size g n bc N g2 a l) := by
          refine ph.set i y ne1 ne2 ?_ ne3
          by_cases hl : l = []
          · exact .inl hl
          · exact .inr (NA.out (by omega) hl)
        have u6 : (wr.setCell ⟨g, i, none⟩ (.int .u8 y)).cell? ⟨N, 6, none⟩ = some (.slice (some ⟨g, 0, none⟩) n bc) := PN.out.c6
        have U6 : (wr.setCell ⟨g, i, none⟩ (.int .u8 y)).drew.cell? ⟨N, 6, none⟩ = some (.slice (some ⟨g, 0, none⟩) n bc) := u6
        have V6 : wr.drew.cell? ⟨N, 6, none⟩ = some (.slice (some ⟨g, 0, none⟩) n bc) := q6
        clear ph ne1 ne2 ne3
        go_wp2_with fail
        go_region
        all_goals
          go_wp2
          go_roundw
          case rel => exact ⟨i + 1, by omega, by go_num, (by first | exact PN.out | exact PN.out.drew)⟩
          case measure => simp [intOf]; omega
      · clear ph
        go_wp2_with (go_at_call 12; refine (rsame_true (some ⟨g2, 0, none⟩) a _ _ c2 k l _ PH.out.inb PH.out.arg rfl rfl).mono ?_; rintro e w8 ⟨rfl, rfl⟩)
        go_ret
        exact ⟨rfl, PH.out.low⟩
end Go.Proofs.YtbajchidpffbpaaDoor
