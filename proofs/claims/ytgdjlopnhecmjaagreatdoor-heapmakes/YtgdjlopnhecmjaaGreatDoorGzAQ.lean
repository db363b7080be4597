/- Layer 15: RuK again -/
import Derived.Test.YtgdjlopnhecmjaaGreatDoorGzAM
import Derived.Laws.MakeOwn
import Derived.RegionTactic
import Derived.Test.YtgdjlopnhecmjaaGreatDoorGzAJ
import Derived.Test.YtgdjlopnhecmjaaGreatDoorGzAP
import Derived.BigRegion
namespace Go.Proofs.YtgdjlopnhecmjaaGreatDoor
open Go.RowKit
set_option linter.unusedVariables false
set_option maxRecDepth 4000
theorem IsR.of {w : World} {S : Nat → Prop} {b n : Nat} {f : Nat → Bool} {L : List (Nat × Nat)} (h : At w S b n L) (hF : FL n f L) : IsR w S b n f := by rw [IsR, ← hF.eq]; exact h
set_option maxHeartbeats 1000000 in
theorem new_any (n : Nat) (w : World) (hn : n ≤ 65536) :
    Calls Tryz.prog 126 #[.int .i64 (n : Nat)] w fun e w' => e = .returned (.tuple #[.pointer (some ⟨w.heap.size, 0, none⟩), .int .i64 0]) ∧ IsR w' (fun k => w.heap.size ≤ k) w.heap.size n (fun _ => false) ∧ Below w.heap.size w w' := by
  obtain ⟨wz, hwz⟩ : ∃ wz, (w.alloc (.cells #[.int .i64 (n : Nat), .slice none 0 0] 257)).alloc (.cells #[.int .i64 0, .int .i64 (n : Nat)] 260) = wz := ⟨_, rfl⟩
  have BZ : Hid (Below w.heap.size w wz) := by show Below _ _ _; rw [← hwz]; exact ((Below.refl _ w).alloc (Nat.le_refl _) _).alloc (by simp) _
  have ZZ : Hid (wz.heap.size = w.heap.size + 2) := by show _ = _; rw [← hwz]; simp
  have AZ : Hid (At wz (fun k => w.heap.size ≤ k ∧ k ≠ w.heap.size + 1) w.heap.size n []) := by
    refine ⟨none, 0, ?_, ⟨Nat.le_refl _, by omega⟩, RowAt.nil _ _⟩
    rw [← hwz, Below.heap_alloc _ _ _ (by simp)]; exact Go.heap_alloc_new w _
  have RZ : Hid (Row wz (w.heap.size + 1) [(0, n)]) := by
    show wz.heap[w.heap.size + 1]? = _
    rw [← hwz]
    have := Go.heap_alloc_new (w.alloc (.cells #[.int .i64 (n : Nat), .slice none 0 0] 257)) (.cells #[.int .i64 0, .int .i64 (n : Nat)] 260)
    rw [World.size_alloc] at this
    rw [this]; rfl
  have h1 : ¬ ((n : Int) < 0) := by omega
  have h2 : ¬ ((65536 : Int) < (n : Int)) := by omega
  go_enter Tryz.func126, Tryz.ntmps126
  go_wp2_with fail
  refine (replace_any (fun k => w.heap.size ≤ k) w.heap.size n (w.heap.size + 1) 0 0 [] [(0, n)] wz AZ.out (fun k hk => by have := ZZ.out; omega) RZ.out (Nat.le_succ _) (Nat.le_refl _) (Nat.le_refl _) (by simp) (by simp)).mono ?_
  rintro e w1 ⟨rfl, h9, t9⟩
  have H9 : Hid (IsR w1 (fun k => w.heap.size ≤ k) w.heap.size n (fun _ => false)) := by
    show At _ _ _ _ _
    rw [← free_new]
    simpa using h9
  have B9 : Hid (Below w.heap.size w w1) := BZ.out.trans (t9.below (fun i hi => hi) BZ.out.size)
  clear h9 t9
  go_wp2
  go_ret2
  exact ⟨rfl, H9.out, B9.out⟩
end Go.Proofs.YtgdjlopnhecmjaaGreatDoor

/- Layer 15: RuO again -/
namespace Go.Proofs.YtgdjlopnhecmjaaGreatDoor
open Go.RowKit
set_option linter.unusedVariables false
set_option maxRecDepth 4000
set_option maxHeartbeats 4000000 in
theorem utake_any (S : Nat → Prop) (b n : Nat) (f : Nat → Bool) (k : Int) (w : World) (h : IsR w S b n f) (hS : ∀ i, w.heap.size ≤ i → S i) (hn : n ≤ 65536) (hk : -9223372036854775808 ≤ k ∧ k ≤ 9223372036854775807) :
    Calls Tryz.prog 232 #[.pointer (some ⟨b, 0, none⟩), .int .i64 k] w fun e w' => ∃ x r f', e = .returned (.tuple #[.int .i64 x, .int .i64 r]) ∧ TakeU n f k x r f' ∧ IsR w' S b n f' ∧ Tu S w w' := by
  have H : Hid (IsR w S b n f) := h
  by_cases h1 : k < 1
  · have TR : Hid (TakeU n f k 0 2 f) := .inl ⟨h1, rfl, rfl, rfl⟩
    clear h
    go_enter Tryz.func232, Tryz.ntmps232
    go_wp2
    go_ret2
    exact ⟨0, 2, f, rfl, TR.out, H.out, Tu.refl _ _⟩
  · have FLL := freeL_FL f n
    have hll := freeL_len f n
    unfold IsR at h
    obtain ⟨L, hL⟩ : ∃ L, freeL f n = L := ⟨_, rfl⟩
    rw [hL] at h hll FLL
    have HF : Hid (FL n f L) := FLL
    have AZ : Hid (At w S b n L) := h
    have hk1 : 1 ≤ k := by omega
    obtain ⟨a, cap, hB⟩ := h
    have HB : Hid (Box w S b a cap n L) := hB
    have c1 := hB.cell1
    have B0 : Hid (Below w.heap.size w w) := Below.refl _ _
    clear hB hL FLL
    go_enter Tryz.func232, Tryz.ntmps232
    go_wp2
    go_loopw [17] (fun iv wr => ∃ i : Nat, i ≤ L.length ∧ iv = .int .i64 (i : Nat) ∧ (∀ r ∈ L.take i, ((r.2 : Nat) : Int) < k) ∧ Below w.heap.size w wr) (fun iv _ => L.length - (intOf iv).toNat)
    case atStart => exact ⟨0, Nat.zero_le _, rfl, by simp, B0.out⟩
    case round =>
      obtain ⟨i, hi, rfl, hA, hb⟩ := hrel
      rename World => wr
      have BB : Hid (Below w.heap.size w wr) := hb
      have HA : Hid (∀ r ∈ L.take i, ((r.2 : Nat) : Int) < k) := hA
      by_cases hlt : i < L.length
      · obtain ⟨g, rfl, _, hgl, d0, d1⟩ := (HB.out.keep hb).run hlt
        have hxb := HF.out.pos L[i] (List.getElem_mem hlt)
        obtain ⟨x, hx⟩ : ∃ x, L[i] = x := ⟨_, rfl⟩
        have EX : Hid (L[i] = x) := hx
        rw [hx] at d0 d1 hxb
        obtain ⟨x1, x2⟩ := x
        simp only at d0 d1 hxb
        have hlt' : (i : Int) < (L.length : Int) := by omega
        clear hA hb hx
        by_cases hge : k ≤ (x2 : Int)
        · obtain ⟨q, rfl⟩ : ∃ q : Nat, k = q := ⟨k.toNat, by omega⟩
          have hq1 : 1 ≤ q := by omega
          have hqx : q ≤ x2 := by omega
          obtain ⟨D, hD⟩ : ∃ D, wr.alloc (.cells #[.int .i64 (x1 : Nat), .int .i64 (x2 : Nat)] 260) = D := ⟨_, rfl⟩
          have BD : Hid (Below w.heap.size w D) := by show Below _ _ _; rw [← hD]; exact BB.out.alloc BB.out.size _
          have DQ : Hid (D.heap[wr.heap.size]? = some (.cells #[.int .i64 (x1 : Nat), .int .i64 (x2 : Nat)] 260 (0, 0))) := by show _ = _; rw [← hD]; exact Go.heap_alloc_new wr _
          have DS : Hid (D.heap.size = wr.heap.size + 1) := by show _ = _; rw [← hD]; simp
          have AD : Hid (At D (fun k => S k ∧ k ≠ wr.heap.size) b n L) := AZ.out.fresh _ BD.out BB.out.size
          have FC : Hid (FL n (turnU f x1 q true) (L.take i ++ [(L[i].1, x1 - L[i].1), (x1 + q, L[i].1 + L[i].2 - (x1 + q))].filter notE ++ L.drop (i + 1))) := by
            have q1 := HF.out
            rw [list_parts L i hlt] at q1
            exact cut_FL (a := L[i].1) (l := L[i].2) q1 (by rw [EX.out]; exact Nat.le_refl _) (by rw [EX.out]; simp only; omega) hq1
          have TR : Hid (TakeU n f q x1 0 (turnU f x1 q true)) := by
            refine .inr (.inr ⟨hk1, x1, ?_, rfl, rfl, by simp⟩)
            have := HF.out.take_some (k := q) (i := i) hq1 hlt (by rw [EX.out]; exact hqx) (fun r hr => by have := HA.out r hr; omega)
            rw [EX.out] at this
            simpa using this
          have HD : Hid (wr.alloc (.cells #[.int .i64 (x1 : Nat), .int .i64 (x2 : Nat)] 260) = D) := hD
          have v0 : D.cell? ⟨wr.heap.size, 0, none⟩ = some (.int .i64 (x1 : Nat)) := cell_of_row _ _ 0 _ _ _ DQ.out
          have v1 : D.cell? ⟨wr.heap.size, 1, none⟩ = some (.int .i64 (x2 : Nat)) := cell_of_row _ _ 1 _ _ _ DQ.out
          go_wp2_with (go_at_call 231; refine (cut_any (fun k => S k ∧ k ≠ wr.heap.size) b n i x1 q L D AD.out (fun k hk => ⟨hS k (by have := BD.out.size; omega), by have := DS.out; omega⟩) hlt (by omega) (by rw [EX.out]; exact Nat.le_refl _) (by rw [EX.out]; simp only; omega) (by rw [EX.out]; simp only; omega)).mono ?_; rintro e w9 ⟨rfl, h9, t9⟩; have I9 : Hid (IsR w9 S b n (turnU f x1 q true)) := IsR.of (h9.mono (fun i _ hs => hs.1)) FC.out; have T9 : Hid (Tu S w w9) := (Tu.ofBelow BD.out).trans (t9.mono (fun i _ hs => hs.1)); have v9 : w9.cell? ⟨wr.heap.size, 0, none⟩ = some (.int .i64 (x1 : Nat)) := (t9.cell (fun hs => hs.2 rfl) (by have := DS.out; omega)).trans v0; clear h9 t9)
          go_ret2
          exact ⟨x1, 0, turnU f x1 q true, rfl, TR.out, I9.out, T9.out⟩
        · have hlt2 : (x2 : Int) < k := by omega
          go_wp2
          go_roundw
          case rel =>
            refine ⟨i + 1, by omega, by go_num, ?_, BB.out.alloc BB.out.size _⟩
            intro r hr
            rw [List.take_succ_eq_append_getElem hlt, List.mem_append] at hr
            rcases hr with hr | hr
            · exact HA.out r hr
            · simp at hr; subst hr; rw [EX.out]; exact hlt2
          case measure => simp [intOf]; omega
      · obtain rfl : i = L.length := by omega
        have TR : Hid (TakeU n f k 0 7 f) := by
          refine .inr (.inl ⟨hk1, HF.out.take_none (by omega) (fun r hr => ?_), rfl, rfl, rfl⟩)
          have := HA.out r (by rw [List.take_length]; exact hr)
          omega
        clear hA hb
        go_wp2
        go_ret2
        exact ⟨0, 7, f, rfl, TR.out, H.out.keep BB.out, Tu.ofBelow BB.out⟩
end Go.Proofs.YtgdjlopnhecmjaaGreatDoor

/- Layer 15: RuJ again -/
namespace Go.Proofs.YtgdjlopnhecmjaaGreatDoor
open Go.RowKit
set_option linter.unusedVariables false
set_option maxRecDepth 4000
theorem below_drewN' {w w' : World} {B : Nat} (h : Below B w w'.drew) (m : Nat) : Below B w (w'.drewN m) := ⟨h.os, h.tape, h.output, h.size, h.block⟩
theorem int_beq (s p : Nat) : ((s : Int) == (p : Int)) = decide (s = p) := by rw [Bool.eq_iff_iff]; simp; omega
def Front (L : List (Nat × Nat)) (i p k fr ua um : Nat) : Prop :=
  (fr = i ∧ ua = p ∧ um = k ∧ ∀ h : i - 1 < L.length, 0 < i → L[i - 1].1 + L[i - 1].2 ≠ p) ∨ (0 < i ∧ fr = i - 1 ∧ ∃ h : i - 1 < L.length, L[i - 1].1 + L[i - 1].2 = p ∧ ua = L[i - 1].1 ∧ um = L[i - 1].2 + k)
def Back (L : List (Nat × Nat)) (i t um tt ul : Nat) : Prop :=
  (tt = i ∧ ul = um ∧ ∀ h : i < L.length, L[i].1 ≠ t) ∨ (∃ h : i < L.length, tt = i + 1 ∧ L[i].1 = t ∧ ul = um + L[i].2)
set_option maxHeartbeats 4000000 in
theorem join_any (S : Nat → Prop) (b n i p k : Nat) (L : List (Nat × Nat)) (w : World) (h : At w S b n L) (hS : ∀ i, w.heap.size ≤ i → S i) (hi : i ≤ L.length) (hl : L.length ≤ 65536) (hp : ∀ r ∈ L, r.1 + r.2 ≤ 65536) (hpk : p + k ≤ 65536) (hk : 1 ≤ k) :
    Calls Tryz.prog 237 #[.pointer (some ⟨b, 0, none⟩), .int .i64 (i : Nat), .agg #[.int .i64 (p : Nat), .int .i64 (k : Nat)]] w fun e w' =>
      e = .returned (.tuple #[]) ∧ (∃ fr ua um tt ul, Front L i p k fr ua um ∧ Back L i (p + k) um tt ul ∧ At w' S b n (L.take fr ++ [(ua, ul)] ++ L.drop tt)) ∧ Tu S w w' := by
  have H : Hid (At w S b n L) := h
  obtain ⟨a, cap, hB⟩ := h
  have HB : Hid (Box w S b a cap n L) := hB
  have HP : Hid (∀ r ∈ L, r.1 + r.2 ≤ 65536) := hp
  have hbl := hB.lt
  obtain ⟨wz, hwz⟩ : ∃ wz, w.alloc (.cells #[.int .i64 (p : Nat), .int .i64 (k : Nat)] 260) = wz := ⟨_, rfl⟩
  have bz : Below w.heap.size w wz := by rw [← hwz]; exact (Below.refl _ w).alloc (Nat.le_refl _) _
  have QZ : Hid (wz.heap[w.heap.size]? = some (.cells #[.int .i64 (p : Nat), .int .i64 (k : Nat)] 260 (0, 0))) := by show _ = _; rw [← hwz]; exact Go.heap_alloc_new w _
  have BZ : Hid (Below w.heap.size w wz) := bz
  obtain ⟨c, hc⟩ : ∃ c : Bool, c = true ↔ (∃ h : i - 1 < L.length, 0 < i ∧ L[i - 1].1 + L[i - 1].2 = p) := by
    by_cases e : ∃ h : i - 1 < L.length, 0 < i ∧ L[i - 1].1 + L[i - 1].2 = p
    · exact ⟨true, by simp [e]⟩
    · exact ⟨false, by simp [e]⟩
  have HC : Hid (c = true ↔ (∃ h : i - 1 < L.length, 0 < i ∧ L[i - 1].1 + L[i - 1].2 = p)) := hc
  clear hB hp hc bz
  go_enter Tryz.func237, Tryz.ntmps237
  go_upto_region 2 with fail
  go_cut [25] from 10 to 25 (fun v wx => v = .bool c ∧ Below wz.heap.size wz wx)
  case first =>
    by_cases h0 : i = 0
    · subst h0
      have hcf : c = false := by
        cases e : c
        · rfl
        · obtain ⟨_, h1, _⟩ := HC.out.1 e; omega
      subst hcf
      have B0 : Hid (Below wz.heap.size wz wz.drew) := (Below.refl _ wz).drew
      clear HC
      go_quiet (fail)
      all_goals go_wp2
      all_goals go_meet
      all_goals exact ⟨rfl, below_drewN' B0.out _⟩
    · have hi1 : i - 1 < L.length := by omega
      obtain ⟨g, rfl, _, hgl, d0, d1⟩ := (HB.out.keep BZ.out).run hi1
      have c1 := (HB.out.keep BZ.out).cell1
      have hbd := HP.out L[i - 1] (List.getElem_mem hi1)
      have HC2 : Hid (c = decide (L[i - 1].1 + L[i - 1].2 = p)) := by
        show _ = _
        cases e : c
        · refine (decide_eq_false (fun e' => ?_)).symm
          have := HC.out.2 ⟨hi1, by omega, e'⟩
          rw [e] at this; cases this
        · exact (decide_eq_true (HC.out.1 e).2.2).symm
      obtain ⟨x, hx⟩ : ∃ x, L[i - 1] = x := ⟨_, rfl⟩
      rw [hx] at d0 d1 hbd HC2
      obtain ⟨x1, x2⟩ := x
      simp only at d0 d1 hbd HC2
      obtain ⟨s, hs⟩ : ∃ s, x1 + x2 = s := ⟨_, rfl⟩
      have ES : Hid (x1 + x2 = s) := hs
      rw [hs] at hbd HC2
      obtain ⟨j, ej⟩ : ∃ j, i - 1 = j := ⟨_, rfl⟩
      rw [ej] at d0 d1 hi1
      have hwr : IntKind.i64.wrap ((i : Int) - 1) = (j : Int) := by rw [IntKind.wrap_i64]; omega
      have h0n : 0 < i := by omega
      have u0 : wz.cell? ⟨w.heap.size, 0, none⟩ = some (.int .i64 (p : Nat)) := cell_of_row _ _ 0 _ _ _ QZ.out
      have hj : (j : Int) < (L.length : Int) := by omega
      have hj0 : (0 : Int) ≤ (j : Int) := by omega
      have hpos : (0 : Int) < (i : Int) := by omega
      have B1 : Hid (Below wz.heap.size wz (wz.drew.alloc (.cells #[.int .i64 (x1 : Nat), .int .i64 (x2 : Nat)] 260))) := (Below.refl _ wz).drew.alloc (Nat.le_refl _) _
      have nu := World.new_ne wz _ u0
      clear hs hx HC ej h0
      go_region_held3 (fun w' => w'.cell? ⟨b, 1, none⟩ = some (.slice (some ⟨g, 0, none⟩) L.length cap) ∧ w'.cell? ⟨g, j * 2, none⟩ = some (.int .i64 (x1 : Nat)) ∧ w'.cell? ⟨g, j * 2 + 1, none⟩ = some (.int .i64 (x2 : Nat)) ∧ w'.cell? ⟨w.heap.size, 0, none⟩ = some (.int .i64 (p : Nat))) (go_keep)
        ((go_at_call 230; refine (end_any x1 x2 _ (by have := ES.out; omega)).mono ?_; rw [ES.out]; rintro e w' ⟨rfl, rfl⟩))
      all_goals go_wp2
      all_goals go_meet
      all_goals exact ⟨by rw [HC2.out, int_beq], B1.out⟩
  case rest =>
    obtain ⟨rfl, bw⟩ := hcut
    have BW : Hid (Below w.heap.size w wc) := BZ.out.trans (bw.mono BZ.out.size)
    have hul : w.heap.size < wz.heap.size := (Array.getElem?_eq_some_iff.1 QZ.out).1
    have QW : Hid (wc.heap[w.heap.size]? = some (.cells #[.int .i64 (p : Nat), .int .i64 (k : Nat)] 260 (0, 0))) := by show _ = _; rw [bw.block _ hul]; exact QZ.out
    clear bw hul hwz
    go_upto_if 25 with (fail)
    go_cut [6] from 26 to 47 (fun v wx => ∃ fr ua um : Nat, v = .int .i64 (fr : Nat) ∧ Front L i p k fr ua um ∧ ua + um = p + k ∧ fr ≤ i ∧ wx.heap[w.heap.size]? = some (.cells #[.int .i64 (ua : Nat), .int .i64 (um : Nat)] 260 (0, 0)) ∧ Below w.heap.size w wx)
    case first =>
      cases c
      · have FR : Hid (Front L i p k i p k) := .inl ⟨rfl, rfl, rfl, fun h h0 e => by have := HC.out.2 ⟨h, h0, e⟩; cases this⟩
        clear HC
        go_wp2
        go_meet
        exact ⟨i, p, k, rfl, FR.out, rfl, Nat.le_refl _, QW.out, BW.out⟩
      · obtain ⟨hi1, h0n, he⟩ := HC.out.1 rfl
        obtain ⟨g, rfl, _, hgl, d0, d1⟩ := (HB.out.keep BW.out).run hi1
        have c1 := (HB.out.keep BW.out).cell1
        have FR : Hid (Front L i p k (i - 1) L[i - 1].1 (L[i - 1].2 + k)) := .inr ⟨h0n, rfl, hi1, he, rfl, rfl⟩
        obtain ⟨x, hx⟩ : ∃ x, L[i - 1] = x := ⟨_, rfl⟩
        rw [hx] at d0 d1 he FR
        obtain ⟨x1, x2⟩ := x
        simp only at d0 d1 he FR
        obtain ⟨j, ej⟩ : ∃ j, i - 1 = j := ⟨_, rfl⟩
        rw [ej] at d0 d1 FR hi1
        have hwr : IntKind.i64.wrap ((i : Int) - 1) = (j : Int) := by rw [IntKind.wrap_i64]; omega
        have u0 : wc.cell? ⟨w.heap.size, 0, none⟩ = some (.int .i64 (p : Nat)) := cell_of_row _ _ 0 _ _ _ QW.out
        have u1 : wc.cell? ⟨w.heap.size, 1, none⟩ = some (.int .i64 (k : Nat)) := cell_of_row _ _ 1 _ _ _ QW.out
        have z0 : wc.frozen? ⟨w.heap.size, 0, none⟩ = false := frozen_of_row _ _ _ _ _ QW.out
        have z1 : wc.frozen? ⟨w.heap.size, 1, none⟩ = false := frozen_of_row _ _ _ _ _ QW.out
        have hj : (j : Int) < (L.length : Int) := by omega
        have hj0 : (0 : Int) ≤ (j : Int) := by omega
        have EJ : Hid (i - 1 = j) := ej
        have EQ : Hid (x1 + x2 = p) := he
        have bx : x1 ≤ 65536 ∧ x2 ≤ 65536 := by omega
        have NW : Hid (∀ v v', ((wc.setCell ⟨w.heap.size, 0, none⟩ v).setCell ⟨w.heap.size, 1, none⟩ v').heap[w.heap.size]? = some (.cells #[v, v'] 260 (0, 0))) := fun v v' => by
          rw [heap_setCell_same _ w.heap.size 1 _ _ v' (heap_setCell_same wc w.heap.size 0 _ _ v QW.out)]; rfl
        have NB : Hid (∀ v v', Below w.heap.size w ((wc.setCell ⟨w.heap.size, 0, none⟩ v).setCell ⟨w.heap.size, 1, none⟩ v')) := fun v v' => ((Tu.ofBelow (S := fun k => w.heap.size ≤ k) BW.out).only (Only.set2 _ _ _ _ _ _) (Nat.le_refl _)).below (fun i hi => hi) (Nat.le_refl _)
        clear HC hx ej he
        go_wp2_with fail
        go_region
        all_goals go_wp2
        all_goals go_meet
        all_goals exact ⟨j, x1, x2 + k, rfl, by have := FR.out; exact this, by have := EQ.out; omega, by have := EJ.out; omega, NW.out _ _, (NB.out _ _).drew⟩
    case rest =>
      obtain ⟨fr, ua, um, rfl, hFr, hu, hfr, hq, bw⟩ := hcut
      have HFR : Hid (Front L i p k fr ua um) := hFr
      have HQ : Hid (wc.heap[w.heap.size]? = some (.cells #[.int .i64 (ua : Nat), .int .i64 (um : Nat)] 260 (0, 0))) := hq
      have HW : Hid (Below w.heap.size w wc) := bw
      have HU : Hid (ua + um = p + k) := hu
      have hul : w.heap.size < wc.heap.size := (Array.getElem?_eq_some_iff.1 hq).1
      have hub : ua ≤ 65536 ∧ um ≤ 65536 ∧ 1 ≤ um := ⟨by omega, by omega, by rcases hFr with ⟨_, _, h, _⟩ | ⟨_, _, _, _, _, h⟩ <;> omega⟩
      obtain ⟨c2, hc2⟩ : ∃ c2 : Bool, c2 = true ↔ (∃ h : i < L.length, L[i].1 = p + k) := by
        by_cases e : ∃ h : i < L.length, L[i].1 = p + k
        · exact ⟨true, by simp [e]⟩
        · exact ⟨false, by simp [e]⟩
      have HC2 : Hid (c2 = true ↔ (∃ h : i < L.length, L[i].1 = p + k)) := hc2
      have u0 : wc.cell? ⟨w.heap.size, 0, none⟩ = some (.int .i64 (ua : Nat)) := cell_of_row _ _ 0 _ _ _ HQ.out
      have u1 : wc.cell? ⟨w.heap.size, 1, none⟩ = some (.int .i64 (um : Nat)) := cell_of_row _ _ 1 _ _ _ HQ.out
      have c1 := (HB.out.keep HW.out).cell1
      have nu := World.new_ne wc _ u0
      have nb := World.new_ne wc _ c1
      clear hFr hu hq bw hc2 HC
      obtain ⟨ws, hws⟩ : ∃ ws, ws = wc := ⟨_, rfl⟩
      rw [← hws] at HQ HW hul u0 u1 c1 nu nb ⊢
      clear hws
      go_upto_region 5 with fail
      go_cut [67] from 48 to 67 (fun v wx => v = .bool c2 ∧ Below ws.heap.size ws wx)
      case first =>
        by_cases hil : i = L.length
        · have hcf : c2 = false := by
            cases e : c2
            · rfl
            · obtain ⟨h1, _⟩ := HC2.out.1 e; omega
          subst hcf
          have B0 : Hid (Below ws.heap.size ws ws.drew) := (Below.refl _ ws).drew
          have EI : Hid (i = L.length) := hil
          obtain ⟨l, hll⟩ : ∃ l, L.length = l := ⟨_, rfl⟩
          rw [hll] at c1 hil hl
          subst hil
          clear HC2 hll u0 u1 nu nb
          go_quiet (fail)
          all_goals go_wp2
          all_goals go_meet
          all_goals exact ⟨rfl, below_drewN' B0.out _⟩
        · have hi1 : i < L.length := by omega
          obtain ⟨g, rfl, _, hgl, d0, d1⟩ := (HB.out.keep HW.out).run hi1
          have hbd := HP.out L[i] (List.getElem_mem hi1)
          have HD2 : Hid (c2 = decide (p + k = L[i].1)) := by
            show _ = _
            cases e : c2
            · refine (decide_eq_false (fun e' => ?_)).symm
              have := HC2.out.2 ⟨hi1, e'.symm⟩
              rw [e] at this; cases this
            · exact (decide_eq_true (HC2.out.1 e).2.symm).symm
          obtain ⟨x, hx⟩ : ∃ x, L[i] = x := ⟨_, rfl⟩
          rw [hx] at d0 d1 hbd HD2
          obtain ⟨x1, x2⟩ := x
          simp only at d0 d1 hbd HD2
          obtain ⟨t, ht⟩ : ∃ t, p + k = t := ⟨_, rfl⟩
          have ET : Hid (ua + um = t) := HU.out.trans ht
          rw [ht] at HD2 hpk
          have hj : (i : Int) < (L.length : Int) := by omega
          have hj0 : (0 : Int) ≤ (i : Int) := by omega
          have B1 : Hid (Below ws.heap.size ws (ws.drew.alloc (.cells #[.int .i64 (ua : Nat), .int .i64 (um : Nat)] 260))) := (Below.refl _ ws).drew.alloc (Nat.le_refl _) _
          have nd := World.new_ne ws _ d0
          clear hx ht HC2 hil
          go_region_held3 (fun w' => w'.cell? ⟨b, 1, none⟩ = some (.slice (some ⟨g, 0, none⟩) L.length cap) ∧ w'.cell? ⟨g, i * 2, none⟩ = some (.int .i64 (x1 : Nat)) ∧ w'.cell? ⟨w.heap.size, 0, none⟩ = some (.int .i64 (ua : Nat)) ∧ w'.cell? ⟨w.heap.size, 1, none⟩ = some (.int .i64 (um : Nat))) (go_keep)
            ((go_at_call 230; refine (end_any ua um _ (by omega)).mono ?_; rw [ET.out]; rintro e w' ⟨rfl, rfl⟩))
          all_goals go_wp2
          all_goals go_meet
          all_goals exact ⟨by rw [HD2.out, int_beq], B1.out⟩
      case rest =>
        obtain ⟨rfl, bw⟩ := hcut
        have hulw := hul
        have QW : Hid (wc.heap[w.heap.size]? = some (.cells #[.int .i64 (ua : Nat), .int .i64 (um : Nat)] 260 (0, 0))) := by show _ = _; rw [bw.block _ hul]; exact HQ.out
        have BW : Hid (Below w.heap.size w wc) := HW.out.trans (bw.mono (by omega))
        have v0 : wc.cell? ⟨w.heap.size, 0, none⟩ = some (.int .i64 (ua : Nat)) := cell_of_row _ _ 0 _ _ _ QW.out
        have v1 : wc.cell? ⟨w.heap.size, 1, none⟩ = some (.int .i64 (um : Nat)) := cell_of_row _ _ 1 _ _ _ QW.out
        clear bw u0 u1 c1 nu nb
        cases c2
        · have BK : Hid (Back L i (p + k) um i um) := .inl ⟨rfl, rfl, fun h e => by have := HC2.out.2 ⟨h, e⟩; cases this⟩
          clear HC2
          have BD : Hid (Below w.heap.size w (wc.alloc (.cells #[.int .i64 (ua : Nat), .int .i64 (um : Nat)] 260))) := BW.out.alloc BW.out.size _
          have RD : Hid (Row (wc.alloc (.cells #[.int .i64 (ua : Nat), .int .i64 (um : Nat)] 260)) wc.heap.size [(ua, um)]) := Go.heap_alloc_new wc _
          have FE : Hid ([(ua, um)].filter notE = [(ua, um)]) := by show _ = _; rw [List.filter_cons_of_pos (by simp [notE]; omega)]; rfl
          go_wp2_with fail
          refine (replace_any S b n wc.heap.size fr i L [(ua, um)] _ (H.out.fresh _ BD.out BW.out.size) (fun k hk => hS k (by have := BD.out.size; omega)) RD.out (hS _ BW.out.size) hfr hi (by omega) (by simp)).mono ?_
          rw [FE.out]
          rintro e w9 ⟨rfl, h9, t9⟩
          have H9 : Hid (At w9 S b n (L.take fr ++ [(ua, um)] ++ L.drop i)) := h9
          have T9 : Hid (Tu S w w9) := (Tu.ofBelow BD.out).trans t9
          clear h9 t9
          go_wp2
          go_end0
          exact ⟨rfl, ⟨fr, ua, um, i, um, HFR.out, BK.out, by have q := H9.out; first | exact q | simpa using q⟩, T9.out⟩
        · obtain ⟨hi1, he⟩ := HC2.out.1 rfl
          obtain ⟨g, rfl, _, hgl, d0, d1⟩ := (HB.out.keep BW.out).run hi1
          have c1 := (HB.out.keep BW.out).cell1
          have hbd := HP.out L[i] (List.getElem_mem hi1)
          have BK : Hid (Back L i (p + k) um (i + 1) (um + L[i].2)) := .inr ⟨hi1, rfl, he, rfl⟩
          obtain ⟨x, hx⟩ : ∃ x, L[i] = x := ⟨_, rfl⟩
          rw [hx] at d0 d1 hbd BK
          obtain ⟨x1, x2⟩ := x
          simp only at d0 d1 hbd BK
          have z1 : wc.frozen? ⟨w.heap.size, 1, none⟩ = false := frozen_of_row _ _ _ _ _ QW.out
          have hj : (i : Int) < (L.length : Int) := by omega
          have hj0 : (0 : Int) ≤ (i : Int) := by omega
          have BS : Below w.heap.size w (wc.setCell ⟨w.heap.size, 1, none⟩ (.int .i64 ((um : Int) + (x2 : Int)))) := ((Tu.ofBelow (S := fun k => w.heap.size ≤ k) BW.out).only (Only.set _ _ _ _) (Nat.le_refl _)).below (fun i hi => hi) (Nat.le_refl _)
          have BD : Hid (Below w.heap.size w ((wc.setCell ⟨w.heap.size, 1, none⟩ (.int .i64 ((um : Int) + (x2 : Int)))).alloc (.cells #[.int .i64 (ua : Nat), .int .i64 ((um : Int) + (x2 : Int))] 260)).drew) := (BS.alloc BS.size _).drew
          have RD : Hid (Row ((wc.setCell ⟨w.heap.size, 1, none⟩ (.int .i64 ((um : Int) + (x2 : Int)))).alloc (.cells #[.int .i64 (ua : Nat), .int .i64 ((um : Int) + (x2 : Int))] 260)).drew wc.heap.size [(ua, um + x2)]) := by
            have q := Go.heap_alloc_new (wc.setCell ⟨w.heap.size, 1, none⟩ (.int .i64 ((um : Int) + (x2 : Int)))) (.cells #[.int .i64 (ua : Nat), .int .i64 ((um : Int) + (x2 : Int))] 260)
            rw [show (wc.setCell ⟨w.heap.size, 1, none⟩ (.int .i64 ((um : Int) + (x2 : Int)))).heap.size = wc.heap.size from by simp] at q
            exact q
          have FE : Hid ([(ua, um + x2)].filter notE = [(ua, um + x2)]) := by show _ = _; rw [List.filter_cons_of_pos (by simp [notE]; omega)]; rfl
          clear hx HC2 he BS
          go_wp2_with fail
          go_region
          go_wp2_with fail
          rw [show ((i : Int) + 1) = ((i + 1 : Nat) : Int) from rfl]
          refine (replace_any S b n wc.heap.size fr (i + 1) L [(ua, um + x2)] _ (H.out.fresh _ BD.out BW.out.size) (fun k hk => hS k (by have := BD.out.size; omega)) RD.out (hS _ BW.out.size) (by omega) (by omega) (by omega) (by simp)).mono ?_
          rw [FE.out]
          rintro e w9 ⟨rfl, h9, t9⟩
          have H9 : Hid (At w9 S b n (L.take fr ++ [(ua, um + x2)] ++ L.drop (i + 1))) := h9
          have T9 : Hid (Tu S w w9) := (Tu.ofBelow BD.out).trans t9
          clear h9 t9
          go_wp2
          go_end0
          exact ⟨rfl, ⟨fr, ua, um, i + 1, um + x2, HFR.out, BK.out, by have q := H9.out; first | exact q | simpa using q⟩, T9.out⟩
end Go.Proofs.YtgdjlopnhecmjaaGreatDoor

/- Layer 15: RuL again -/
namespace Go.Proofs.YtgdjlopnhecmjaaGreatDoor
open Go.RowKit
set_option linter.unusedVariables false
set_option maxRecDepth 4000
theorem Front.parts {n : Nat} {f : Nat → Bool} {L : List (Nat × Nat)} {i p k fr ua um : Nat} (hF : FL n f L) (hi : FindOK L p i) (h : Front L i p k fr ua um) :
    ∃ A X, L.take i = A ++ X ∧ L.take fr = A ∧ (X = [] ∧ ua = p ∧ um = k ∨ ∃ x1 x2, X = [(x1, x2)] ∧ x1 + x2 = p ∧ ua = x1 ∧ um = x2 + k) ∧ ∀ r ∈ A, r.1 + r.2 < ua := by
  rcases h with ⟨rfl, rfl, rfl, hne⟩ | ⟨h0, rfl, h1, h2, rfl, rfl⟩
  · refine ⟨L.take fr, [], by simp, rfl, .inl ⟨rfl, rfl, rfl⟩, fun r hr => ?_⟩
    have hle := hi.2.1 r hr
    obtain ⟨j, hj, rfl⟩ := List.getElem_of_mem hr
    have hj2 : j < fr ∧ j < L.length := by simp at hj; omega
    rw [List.getElem_take] at hle ⊢
    have h1 : fr - 1 < L.length := by have := hi.1; omega
    by_cases e : j = fr - 1
    · subst e
      have := hne h1 (by omega)
      omega
    · have h2 := List.pairwise_iff_getElem.1 hF.ris j (fr - 1) hj2.2 h1 (by omega)
      have h3 := hi.2.1 L[fr - 1] (by
        have : L[fr - 1] ∈ L.take fr := by
          rw [List.mem_take_iff_getElem]
          exact ⟨fr - 1, by omega, rfl⟩
        exact this)
      have h4 := hF.pos L[fr - 1] (List.getElem_mem h1)
      omega
  · refine ⟨L.take (i - 1), [(L[i - 1].1, L[i - 1].2)], ?_, rfl, .inr ⟨_, _, rfl, h2, rfl, rfl⟩, (hF.behind h1).1⟩
    have := List.take_succ_eq_append_getElem h1
    rw [show i - 1 + 1 = i from by omega] at this
    exact this
theorem Back.parts {n : Nat} {f : Nat → Bool} {L : List (Nat × Nat)} {i t um tt ul : Nat} (hF : FL n f L) (hb : ∀ h : i < L.length, t ≤ L[i].1) (h : Back L i t um tt ul) :
    ∃ Y B, L.drop i = Y ++ B ∧ L.drop tt = B ∧ (Y = [] ∧ ul = um ∧ (∀ r ∈ B, t < r.1) ∨ ∃ y1 y2, Y = [(y1, y2)] ∧ y1 = t ∧ ul = um + y2 ∧ y1 + y2 ≤ n ∧ ∀ r ∈ B, y1 + y2 < r.1) := by
  rcases h with ⟨rfl, rfl, hne⟩ | ⟨h1, rfl, h2, rfl⟩
  · refine ⟨[], L.drop tt, rfl, rfl, .inl ⟨rfl, rfl, fun r hr => ?_⟩⟩
    obtain ⟨j, hj, rfl⟩ := List.getElem_of_mem hr
    have hj2 : tt + j < L.length := by simp at hj; omega
    rw [List.getElem_drop]
    have h1 : tt < L.length := by omega
    have h2 := hb h1
    have h3 := hne h1
    rcases Nat.eq_zero_or_pos j with rfl | h0
    · simp only [Nat.add_zero]; omega
    · have h4 := List.pairwise_iff_getElem.1 hF.ris tt (tt + j) h1 hj2 (by omega)
      omega
  · refine ⟨[(L[i].1, L[i].2)], L.drop (i + 1), ?_, rfl, .inr ⟨_, _, rfl, h2, rfl, (hF.pos L[i] (List.getElem_mem h1)).2, (hF.behind h1).2⟩⟩
    rw [List.drop_eq_getElem_cons h1]; rfl
theorem join_is {n : Nat} {f : Nat → Bool} {L : List (Nat × Nat)} {i p k fr ua um tt ul : Nat} (hF : FL n f L) (hi : FindOK L p i) (hk : 1 ≤ k) (hn : p + k ≤ n) (hb : ∀ h : i < L.length, p + k ≤ L[i].1) (h1 : Front L i p k fr ua um) (h2 : Back L i (p + k) um tt ul) :
    FL n (turnU f p k false) (L.take fr ++ [(ua, ul)] ++ L.drop tt) := by
  have hX : ∀ r ∈ L.take i, r.1 + r.2 ≤ p := hi.2.1
  have hY : ∀ r ∈ L.drop i, p + k ≤ r.1 := by
    intro r hr
    obtain ⟨j, hj, rfl⟩ := List.getElem_of_mem hr
    have hj2 : i + j < L.length := by simp at hj; omega
    rw [List.getElem_drop]
    have h3 := hb (by omega)
    rcases Nat.eq_zero_or_pos j with rfl | h0
    · simpa using h3
    · have h4 := List.pairwise_iff_getElem.1 hF.ris i (i + j) (by omega) hj2 (by omega)
      omega
  obtain ⟨A, X, e1, e2, h3, hA⟩ := h1.parts hF hi
  obtain ⟨Y, B, e3, e4, h4⟩ := h2.parts hF hb
  rw [e2, e4]
  rw [← List.take_append_drop i L, e1, e3] at hF
  rw [e1] at hX
  rw [e3] at hY
  rcases h3 with ⟨rfl, rfl, rfl⟩ | ⟨x1, x2, rfl, h5, rfl, rfl⟩
  · rcases h4 with ⟨rfl, rfl, hB⟩ | ⟨y1, y2, rfl, h6, rfl, h7, hB⟩
    · exact join_FL hF hk hn hX hY hA hB (Nat.le_refl _) (Nat.le_refl _) (fun j => by simp) hn
    · refine join_FL hF hk hn hX hY hA (fun r hr => by have := hB r hr; omega) (Nat.le_refl _) (by omega) (fun j => ?_) (by omega)
      simp; omega
  · rcases h4 with ⟨rfl, rfl, hB⟩ | ⟨y1, y2, rfl, h6, rfl, h7, hB⟩
    · refine join_FL hF hk hn hX hY hA (fun r hr => by have := hB r hr; omega) (by omega) (by omega) (fun j => ?_) (by omega)
      simp; omega
    · refine join_FL hF hk hn hX hY hA (fun r hr => by have := hB r hr; omega) (by omega) (by omega) (fun j => ?_) (by omega)
      simp; omega
end Go.Proofs.YtgdjlopnhecmjaaGreatDoor
