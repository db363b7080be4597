/- Layer 21: Find of the program, over a disk that is down, or isn't there. -/
import Derived.Test.YtofmicbhheebiaaDoorMfFC
import Derived.Test.YtofmicbhheebiaaDoorMfFE
namespace Go.Proofs.YtofmicbhheebiaaDoor
open Go.RowKit
set_option linter.unusedVariables false
set_option maxRecDepth 4000

set_option maxRecDepth 20000 in
set_option maxHeartbeats 4000000 in
theorem mfindBy_down (base b m : Nat) (d : Dk) (w : World) (h : IsD w base b m d) (hd : d.down = true) (h0 : 8 ≤ d.n) (h1 : d.n ≤ 65536) :
    Calls Tryd.prog 29 #[.func (.func 30) #[.pointer (some ⟨b, 0, none⟩)] #[], .int .i64 (d.n : Nat)] w fun e w' => ∃ bb, e = .returned (.tuple #[.slice none 0 0, fltE bb]) ∧ FltAt w' bb 0 14 ∧ Below w.heap.size w w' := by
  have RD : Hid (Calls Tryd.prog 30 #[.pointer (some ⟨b, 0, none⟩), .int .i64 0] w fun e w' => e = .returned (.tuple #[.slice none 0 0, .int .i64 14]) ∧ w = w') := by
    have e : closedE d 0 = 14 := if_pos hd
    have q := read_closed base b m d 0 w h (by rw [e]; decide)
    rw [e] at q
    exact q
  have MS : Hid (∀ w, Calls Tryd.prog 20 #[.int .i64 0, .int .i64 (d.n : Nat)] w fun e w' => e = .returned (.int .i64 0) ∧ w = w') := fun w => by
    have q := msector_any 0 (d.n : Nat) w
    rw [show secM 0 (d.n : Nat) = 0 by rw [secM, if_neg (by omega), if_pos rfl]] at q
    exact q
  obtain ⟨N, hN⟩ : ∃ N, d.n = N := ⟨_, rfl⟩
  rw [hN] at MS ⊢
  obtain ⟨E, hE⟩ : ∃ E, w.alloc (.cells #[.int .i64 0, .iface 27 (.int .i64 14)] 95) = E := ⟨_, rfl⟩
  have rE : E.heap[w.heap.size]? = some (.cells #[.int .i64 0, .iface 27 (.int .i64 14)] 95 (0, 0)) := by rw [← hE]; exact Go.heap_alloc_new w _
  have HE : Hid (w.alloc (.cells #[.int .i64 0, .iface 27 (.int .i64 14)] 95) = E) := hE
  have RE : Hid (FltAt E w.heap.size 0 14) := rE
  have BE : Hid (Below w.heap.size w E) := by show Below _ _ _; rw [← hE]; exact (Below.refl _ w).alloc (Nat.le_refl _) _
  clear h hd h0 h1 hN hE rE
  go_enter Tryd.func29, Tryd.ntmps29
  go_upto_region 3 with (fail)
  refine wp_loop_rounds 1 ?_
  rw [rounds_succ]
  go_wp2_with (first
    | (go_at_call 20; refine Calls.mono (MS.out _) ?_; rintro e w' ⟨rfl, rfl⟩)
    | (go_at_call 30; refine Calls.mono RD.out ?_; rintro e w' ⟨rfl, rfl⟩))
  rw [HE.out]
  go_ret2
  exact ⟨w.heap.size, rfl, RE.out, BE.out⟩

set_option maxRecDepth 20000 in
theorem mfind_nil (w : World) : Calls Tryd.prog 13 #[.pointer none] w fun e w' => e = .returned (.tuple #[.slice none 0 0, refE]) ∧ w = w' := by
  unfold refE
  go_enter Tryd.func13, Tryd.ntmps13
  go_wp2
  go_ret2
  exact ⟨rfl, rfl⟩
set_option maxRecDepth 20000 in
set_option maxHeartbeats 4000000 in
theorem mfind_down (base b m : Nat) (d : Dk) (w : World) (h : IsD w base b m d) (hd : d.down = true) (h0 : 8 ≤ d.n) (h1 : d.n ≤ 65536) :
    Calls Tryd.prog 13 #[.pointer (some ⟨b, 0, none⟩)] w fun e w' => ∃ bb, e = .returned (.tuple #[.slice none 0 0, fltE bb]) ∧ FltAt w' bb 0 14 ∧ Below w.heap.size w w' := by
  have FB : Hid (Calls Tryd.prog 29 #[.func (.func 30) #[.pointer (some ⟨b, 0, none⟩)] #[], .int .i64 (d.n : Nat)] w fun e w' => ∃ bb, e = .returned (.tuple #[.slice none 0 0, fltE bb]) ∧ FltAt w' bb 0 14 ∧ Below w.heap.size w w') := mfindBy_down base b m d w h hd h0 h1
  have LN : Hid (Calls Tryd.prog 31 #[.pointer (some ⟨b, 0, none⟩)] w fun e w' => e = .returned (.int .i64 (d.n : Nat)) ∧ w = w') := len_any base b m d w h
  obtain ⟨N, hN⟩ : ∃ N, d.n = N := ⟨_, rfl⟩
  rw [hN] at FB LN
  clear h hd h0 h1 hN
  go_enter Tryd.func13, Tryd.ntmps13
  go_wp2_with (first
    | (go_at_call 31; refine Calls.mono LN.out ?_; rintro e w' ⟨rfl, rfl⟩)
    | (go_at_call 29; refine Calls.mono FB.out ?_; rintro e w2 ⟨bb, rfl, f2, b2⟩; have F2 : Hid (FltAt w2 bb 0 14) := f2; have B2 : Hid (Below w.heap.size w w2) := b2; clear f2 b2))
  go_ret2
  exact ⟨bb, rfl, F2.out, B2.out⟩
set_option maxRecDepth 20000 in
set_option maxHeartbeats 4000000 in
theorem mfind_open (base b m : Nat) (d : Dk) (w : World) (h : IsD w base b m d) (hd : d.down = false) (h0 : 8 ≤ d.n) (h1 : d.n ≤ 65536) :
    Calls Tryd.prog 13 #[.pointer (some ⟨b, 0, none⟩)] w fun e w' => ∃ a c, e = .returned (.tuple #[.slice a (fndF d).length c, .nilIface]) ∧ Ow 50 w' w.heap.size a (fndF d) c ∧ Below w.heap.size w w' := by
  have FB : Hid (Calls Tryd.prog 29 #[.func (.func 30) #[.pointer (some ⟨b, 0, none⟩)] #[], .int .i64 (d.n : Nat)] w fun e w' => ∃ a c, e = .returned (.tuple #[.slice a (fndF d).length c, .nilIface]) ∧ Ow 50 w' w.heap.size a (fndF d) c ∧ Below w.heap.size w w') := mfindBy_open base b m d w h hd h0 h1
  have LN : Hid (Calls Tryd.prog 31 #[.pointer (some ⟨b, 0, none⟩)] w fun e w' => e = .returned (.int .i64 (d.n : Nat)) ∧ w = w') := len_any base b m d w h
  obtain ⟨N, hN⟩ : ∃ N, d.n = N := ⟨_, rfl⟩
  rw [hN] at FB LN
  obtain ⟨L, hL⟩ : ∃ L, fndF d = L := ⟨_, rfl⟩
  rw [hL] at FB ⊢
  clear h hd h0 h1 hN hL
  go_enter Tryd.func13, Tryd.ntmps13
  go_wp2_with (first
    | (go_at_call 31; refine Calls.mono LN.out ?_; rintro e w' ⟨rfl, rfl⟩)
    | (go_at_call 29; refine Calls.mono FB.out ?_; rintro e w2 ⟨a2, c2, rfl, o2, b2⟩; have O2 : Hid (Ow 50 w2 w.heap.size a2 L c2) := o2; have B2 : Hid (Below w.heap.size w w2) := b2; clear o2 b2))
  go_ret2
  exact ⟨a2, c2, rfl, O2.out, B2.out⟩
end Go.Proofs.YtofmicbhheebiaaDoor

/- Layer 21: both disks side by side. -/
namespace Go.Proofs.YtofmicbhheebiaaDoor
open Go.RowKit Go.Maps
set_option linter.unusedVariables false
set_option maxRecDepth 4000

/-- Both disks, so many calls in. -/
structure Pl (w0 wr : World) (b br i : Nat) (ok : Nat → Prop) (d : Dk) : Prop where
  isD : IsD wr w0.heap.size b i d
  isR : IsR wr w0.heap.size br ok d
  ops : d.ops ≤ i
  pend : d.pend.length ≤ i
  low : Below w0.heap.size w0 wr
theorem Pl.keep {w0 wr w' : World} {b br i : Nat} {ok : Nat → Prop} {d : Dk} (h : Pl w0 wr b br i ok d) (hb : Below wr.heap.size wr w') : Pl w0 w' b br i ok d :=
  ⟨h.isD.keep hb, h.isR.keep hb, h.ops, h.pend, h.low.trans (hb.mono h.low.size)⟩
/-- Both disks have taken a call. -/
theorem Pl.both {w0 w1 w2 w3 : World} {b br i : Nat} {ok : Nat → Prop} {d d' : Dk} (h : Pl w0 w1 b br i ok d) (i2 : IsD w2 w0.heap.size b (i + 1) d') (t2 : Turn w0.heap.size KC w1 w2) (i3 : IsR w3 w0.heap.size br ok d') (t3 : Turn w0.heap.size KR w2 w3) (ho : d'.ops ≤ i + 1) (hp : d'.pend.length ≤ i + 1) : Pl w0 w3 b br (i + 1) ok d' :=
  ⟨i2.turnR t3, i3, ho, hp, (h.low.trans (t2.below h.low.size)).trans (t3.below (by have := h.low.size; have := t2.size; omega))⟩
theorem writeD_le (d : Dk) (x : Int) (l : List Int) : (writeD d x l).ops ≤ d.ops + 1 ∧ (writeD d x l).pend.length ≤ d.pend.length + 1 := by
  unfold writeD
  split
  · rw [workD_pend]
    exact ⟨workD_ops _, by simp [pushD]⟩
  · omega
theorem flushD_le (d : Dk) : (flushD d).ops ≤ d.ops + 1 ∧ (flushD d).pend.length ≤ d.pend.length + 1 := by
  have := workD_ops d
  unfold flushD
  split
  · omega
  · split
    · rw [workD_pend]; omega
    · exact ⟨this, by simp [settleD]⟩
theorem armD_le (d : Dk) (x : Int) : (armD d x).ops ≤ d.ops + 1 ∧ (armD d x).pend.length ≤ d.pend.length + 1 := by
  unfold armD
  split
  · omega
  · exact ⟨by simp, by simp⟩
theorem wr_calm {d : Dk} (hd : d.down = false) (hl : d.left = 0) (i : Int) (l : List Int) : (writeD d i l).n = d.n ∧ (writeD d i l).down = false ∧ (writeD d i l).left = 0 := by
  unfold writeD
  split
  · unfold workD
    rw [if_neg (by simp [pushD, hl]), if_neg (by simp [pushD, hl])]
    exact ⟨rfl, hd, hl⟩
  · exact ⟨rfl, hd, hl⟩
theorem arm_falls {d : Dk} (hd : d.down = false) : (flushD (armD d 1)).n = d.n ∧ (flushD (armD d 1)).down = true := by
  have e : armD d 1 = { d with left := 1 } := if_neg (by rw [hd]; decide)
  rw [e]
  unfold flushD
  rw [if_neg (by show ¬ d.down = true; rw [hd]; decide), if_pos rfl]
  unfold workD
  rw [if_pos rfl]
  exact ⟨rfl, rfl⟩
theorem Pl.wrote {w0 w1 : World} {b br i : Nat} {d : Dk} (h : Pl w0 w1 b br i (fun _ => True) d) (hi : i ≤ 1000) (idx : Int) (a : Option Addr) (n cap : Nat) (l : List Int) (hn : n = l.length) (hB : ∀ w', Below w0.heap.size w0 w' → IsB w' a l) :
    Calls Tryd.prog 7 #[.pointer (some ⟨b, 0, none⟩), .int .i64 idx, .slice a n cap] w1 fun e w2 => (∃ r, e = .returned (.int .i64 r)) ∧ IsD w2 w0.heap.size b (i + 1) (writeD d idx l) ∧ Turn w0.heap.size KC w1 w2 ∧ IsR w2 w0.heap.size br (fun _ => True) d ∧ Below w0.heap.size w0 w2 := by
  have := h.ops
  refine (write_any w0.heap.size b i d idx a n cap l w1 h.isD h.low.size hn (hB w1 h.low) (by omega) (by omega)).mono ?_
  rintro e w2 ⟨rfl, i2, t2⟩
  exact ⟨⟨_, rfl⟩, i2, t2, h.isR.turn t2, h.low.trans (t2.below h.low.size)⟩
theorem Pl.wrote2 {w0 w1 w2 : World} {b br i : Nat} {d : Dk} (h : Pl w0 w1 b br i (fun _ => True) d) (hi : i ≤ 1000) (idx : Int) (a : Option Addr) (n cap : Nat) (l : List Int) (hn : n = l.length) (hB : ∀ w', Below w0.heap.size w0 w' → IsB w' a l) (i2 : IsD w2 w0.heap.size b (i + 1) (writeD d idx l)) (t2 : Turn w0.heap.size KC w1 w2) (r2 : IsR w2 w0.heap.size br (fun _ => True) d) (b2 : Below w0.heap.size w0 w2) :
    Calls Tryd.prog 8 #[.pointer (some ⟨br, 0, none⟩), .int .i64 idx, .slice a n cap] w2 fun e w3 => (∃ r, e = .returned (.int .i64 r)) ∧ Pl w0 w3 b br (i + 1) (fun _ => True) (writeD d idx l) := by
  have := h.ops
  have := h.pend
  refine (rwrite_any w0.heap.size br (fun _ => True) d idx a n cap l w2 r2 b2.size (fun _ _ => trivial) hn (hB w2 b2) (by omega) (by omega)).mono ?_
  rintro e w3 ⟨rfl, i3, t3⟩
  have q := writeD_le d idx l
  exact ⟨⟨_, rfl⟩, h.both i2 t2 i3 t3 (by omega) (by omega)⟩
theorem Pl.armed {w0 w1 : World} {b br i : Nat} {d : Dk} (h : Pl w0 w1 b br i (fun _ => True) d) :
    Calls Tryd.prog 9 #[.pointer (some ⟨b, 0, none⟩), .int .i64 1] w1 fun e w2 => e = .returned (.tuple #[]) ∧ IsD w2 w0.heap.size b (i + 1) (armD d 1) ∧ Turn w0.heap.size KC w1 w2 ∧ IsR w2 w0.heap.size br (fun _ => True) d ∧ Below w0.heap.size w0 w2 := by
  refine (arm_any w0.heap.size b i d 1 w1 h.isD (by decide)).mono ?_
  rintro e w2 ⟨rfl, i2, t2⟩
  exact ⟨rfl, i2.mono (by omega), t2, h.isR.turn t2, h.low.trans (t2.below h.low.size)⟩
theorem Pl.armed2 {w0 w1 w2 : World} {b br i : Nat} {d : Dk} (h : Pl w0 w1 b br i (fun _ => True) d) (i2 : IsD w2 w0.heap.size b (i + 1) (armD d 1)) (t2 : Turn w0.heap.size KC w1 w2) (r2 : IsR w2 w0.heap.size br (fun _ => True) d) (b2 : Below w0.heap.size w0 w2) :
    Calls Tryd.prog 10 #[.pointer (some ⟨br, 0, none⟩), .int .i64 1] w2 fun e w3 => e = .returned (.tuple #[]) ∧ Pl w0 w3 b br (i + 1) (fun _ => True) (armD d 1) := by
  have := h.ops
  have := h.pend
  refine (rarm_any w0.heap.size br (fun _ => True) d 1 w2 r2 (by decide)).mono ?_
  rintro e w3 ⟨rfl, i3, t3⟩
  have q := armD_le d 1
  exact ⟨rfl, h.both i2 t2 i3 t3 (by omega) (by omega)⟩
theorem Pl.flushed {w0 w1 : World} {b br i : Nat} {d : Dk} (h : Pl w0 w1 b br i (fun _ => True) d) (hi : i ≤ 1000) :
    Calls Tryd.prog 11 #[.pointer (some ⟨b, 0, none⟩)] w1 fun e w2 => (∃ r, e = .returned (.int .i64 r)) ∧ IsD w2 w0.heap.size b (i + 1) (flushD d) ∧ Turn w0.heap.size KC w1 w2 ∧ IsR w2 w0.heap.size br (fun _ => True) d ∧ Below w0.heap.size w0 w2 := by
  have := h.ops
  refine (flush_any w0.heap.size b i d w1 h.isD h.low.size (by omega) (by omega)).mono ?_
  rintro e w2 ⟨rfl, i2, t2⟩
  exact ⟨⟨_, rfl⟩, i2.mono (by omega), t2, h.isR.turn t2, h.low.trans (t2.below h.low.size)⟩
theorem Pl.flushed2 {w0 w1 w2 : World} {b br i : Nat} {d : Dk} (h : Pl w0 w1 b br i (fun _ => True) d) (hi : i ≤ 1000) (i2 : IsD w2 w0.heap.size b (i + 1) (flushD d)) (t2 : Turn w0.heap.size KC w1 w2) (r2 : IsR w2 w0.heap.size br (fun _ => True) d) (b2 : Below w0.heap.size w0 w2) :
    Calls Tryd.prog 12 #[.pointer (some ⟨br, 0, none⟩)] w2 fun e w3 => (∃ r, e = .returned (.int .i64 r)) ∧ Pl w0 w3 b br (i + 1) (fun _ => True) (flushD d) := by
  have := h.ops
  have := h.pend
  refine (rflush_any w0.heap.size br (fun _ => True) d w2 r2 b2.size (fun _ _ => trivial) (by omega) (by omega)).mono ?_
  rintro e w3 ⟨rfl, i3, t3⟩
  have q := flushD_le d
  exact ⟨⟨_, rfl⟩, h.both i2 t2 i3 t3 (by omega) (by omega)⟩
end Go.Proofs.YtofmicbhheebiaaDoor
