/- What the laws of layer 7 share: arguments that came in; what plays answers. -/
import Derived.Test.YtdpkmlkckhhcgaaRnV
import Derived.Test.YtdpkmlkckhhcgaaRnX
import Derived.Test.YtdpkmlkckhhcgaaRnU
import Derived.Deep.Slices
import Derived.Deep.Strs
namespace Go.Proofs.Ytdpkmlkckhhcgaa
open Go.ChangeShapes Go.WideShapes Go.ChangeAt Go.RowKit
set_option linter.unusedVariables false

theorem own : ownKnob Try.prog.godebug = none := by kernel_rfl
theorem laidOut : laidOutB Try.prog = true := by kernel_rfl
theorem int_of_wf {x : Int} (h : (Lit.int .i64 x).wf = true) : -9223372036854775808 ≤ x ∧ x ≤ 9223372036854775807 := by
  simp [Lit.wf, IntKind.min, IntKind.max, IntKind.signed, IntKind.bits] at h
  exact ⟨by omega, by omega⟩
theorem u16_of_wf {x : Int} (h : (Lit.int .u16 x).wf = true) : ∃ m : Nat, x = m ∧ m < 65536 := by
  simp [Lit.wf, IntKind.min, IntKind.max, IntKind.signed, IntKind.bits] at h
  exact ⟨x.toNat, by omega, by omega⟩
theorem lt_of_cell {w : World} {b off : Nat} {v : Value} (h : w.cell? ⟨b, off, none⟩ = some v) : b < w.heap.size := block_lt_of_cell h

/-- A slice of calls: what its cells hold. -/
def IsC (w : World) (a : Option Addr) (n : Nat) (kd xx kk : Nat → Int) : Prop :=
  (∀ i, i < n → (-9223372036854775808 ≤ xx i ∧ xx i ≤ 9223372036854775807) ∧ -9223372036854775808 ≤ kk i ∧ kk i ≤ 9223372036854775807) ∧
  (n = 0 ∨ ∃ b off, a = some ⟨b, off, none⟩ ∧ b < w.heap.size ∧ ∀ i, i < n →
    w.cell? ⟨b, off + i * 3, none⟩ = some (.int .i64 (kd i)) ∧ w.cell? ⟨b, off + i * 3 + 1, none⟩ = some (.int .i64 (xx i)) ∧ w.cell? ⟨b, off + i * 3 + 2, none⟩ = some (.int .i64 (kk i)))
theorem IsC.keep {w w' : World} {a : Option Addr} {n : Nat} {kd xx kk : Nat → Int} (h : IsC w a n kd xx kk) (hb : Below w.heap.size w w') : IsC w' a n kd xx kk := by
  obtain ⟨h0, h | ⟨b, off, e, hs, hc⟩⟩ := h
  · exact ⟨h0, .inl h⟩
  · refine ⟨h0, .inr ⟨b, off, e, by have := hb.size; omega, fun i hi => ?_⟩⟩
    rw [hb.cell (p := ⟨b, off + i * 3, none⟩) hs, hb.cell (p := ⟨b, off + i * 3 + 1, none⟩) hs, hb.cell (p := ⟨b, off + i * 3 + 2, none⟩) hs]
    exact hc i hi
theorem IsC.nil (w : World) (a : Option Addr) : IsC w a 0 (fun _ => 0) (fun _ => 0) (fun _ => 0) := ⟨fun i hi => by omega, .inl rfl⟩

theorem Try.cellsCall : Try.prog.cellsOf 31 = 3 := by kernel_rfl
theorem Try.cellsInt : Try.prog.cellsOf 3 = 1 := by kernel_rfl

theorem open_calls {H : Type} {enc : TypeId × Value → H} {W : World} {a : Option Addr} {len cap : Nat} {d : DataW H} {p : List MemPlace} (h : DataW.Trod enc Try.prog W 0 (fun _ => true) true 23 (.slice a len cap) d p) :
    ∃ kd xx kk : Nat → Int, IsC W a len kd xx kk ∧ len ≤ maxLen := by
  obtain ⟨fuel, hf⟩ := h
  rcases Deep.open_slice Try.underlying23 hf with ⟨hcs, hx⟩ | ⟨x, l, c, m, n, D, Pl, hcs, hb, hl, hm, hmm, hx, hcell⟩
  · simp [Value.cells] at hcs
    obtain ⟨rfl, rfl, rfl⟩ := hcs
    exact ⟨fun _ => 0, fun _ => 0, fun _ => 0, IsC.nil _ _, Nat.zero_le _⟩
  · simp [Value.cells] at hcs
    obtain ⟨rfl, rfl, rfl⟩ := hcs
    simp only [if_true] at hmm
    subst hmm
    rw [Try.cellsCall] at hcell
    have each : ∀ i, i < len → ∃ q : Int × Int × Int, W.cell? (x.add (i * 3)) = some (.int .i64 q.1) ∧ W.cell? (x.add (i * 3 + 1)) = some (.int .i64 q.2.1) ∧ W.cell? (x.add (i * 3 + 2)) = some (.int .i64 q.2.2) ∧ (Lit.int .i64 q.1).wf = true ∧ (Lit.int .i64 q.2.1).wf = true ∧ (Lit.int .i64 q.2.2).wf = true := by
      intro i hi
      obtain ⟨cs', h1, h2⟩ := hcell i (by omega)
      obtain ⟨_, hlen, hc⟩ := World.cells?_some h1
      obtain ⟨y0, y1, y2, k, _, _, g0, g1, g2⟩ := Deep.trod_struct3 Try.underlying31 h2
      match cs', hlen with
      | [u0, u1, u2], _ =>
        obtain ⟨z0, e0, _, f0⟩ := DataW.trod_int Try.underlying3 g0
        obtain ⟨z1, e1, _, f1⟩ := DataW.trod_int Try.underlying3 g1
        obtain ⟨z2, e2, _, f2⟩ := DataW.trod_int Try.underlying3 g2
        simp [Try.cellsInt] at e0 e1 e2
        subst e0 e1 e2
        have c0 := hc 0 (by omega)
        have c1 := hc 1 (by omega)
        have c2 := hc 2 (by omega)
        rw [Deep.add_add] at c0 c1 c2
        exact ⟨(z0, z1, z2), by simpa using c0, by simpa using c1, by simpa using c2, f0, f1, f2⟩
    obtain ⟨q, hq⟩ := Deep.choose_lt each
    refine ⟨fun i => (q i).1, fun i => (q i).2.1, fun i => (q i).2.2, ⟨fun i hi => ⟨int_of_wf (hq i hi).2.2.2.2.1, int_of_wf (hq i hi).2.2.2.2.2⟩, ?_⟩, by omega⟩
    by_cases h0 : len = 0
    · exact .inl h0
    · obtain ⟨b, off, spot⟩ := x
      have h1 := (hq 0 (by omega)).1
      have hspot : spot = none := by simpa [Addr.add] using World.cell?_spot h1
      subst hspot
      refine .inr ⟨b, off, rfl, ?_, ?_⟩
      · rw [addr_add] at h1
        exact lt_of_cell h1
      · intro i hi
        obtain ⟨c0, c1, c2, _⟩ := hq i hi
        rw [addr_add] at c0 c1 c2
        exact ⟨c0, by rw [Nat.add_assoc]; exact c1, by rw [Nat.add_assoc]; exact c2⟩

theorem bcellL {w w' : World} {b j : Nat} {v : Value} (hb : Below w.heap.size w w') (hs : b < w.heap.size) (h : w.cell? ⟨b, j, none⟩ = some v) : w'.cell? ⟨b, j, none⟩ = some v := (hb.cell (p := ⟨b, j, none⟩) hs).trans h
/-- Blocks that the call has made, the document's units aside. -/
def Mine (B mb mg : Nat) : Nat → Prop := fun k => B ≤ k ∧ k ≠ mb ∧ k ≠ mg

/-- The units behind some calls. -/
structure Played (w wr : World) (b mb mg n : Nat) (f : Nat → Bool) : Prop where
  two : Two wr (Mine w.heap.size mb mg) b mb mg n f
  low : Below w.heap.size w wr
  ge1 : w.heap.size ≤ mb
  ge2 : w.heap.size ≤ mg
theorem Played.next {w wr w' : World} {b mb mg n : Nat} {f f' : Nat → Bool} (h : Played w wr b mb mg n f) (h2 : Two w' (Mine w.heap.size mb mg) b mb mg n f') (ht : Tu (fun i => Mine w.heap.size mb mg i ∨ i = mg) wr w') : Played w w' b mb mg n f' :=
  ⟨h2, h.low.trans (ht.below (fun i hi => by rcases hi with hi | hi; exact hi.1; rw [hi]; exact h.ge2) h.low.size), h.ge1, h.ge2⟩
theorem Played.keep {w wr w' : World} {b mb mg n : Nat} {f : Nat → Bool} (h : Played w wr b mb mg n f) (hb : Below wr.heap.size wr w') : Played w w' b mb mg n f :=
  ⟨h.two.keep hb, h.low.trans (hb.mono h.low.size), h.ge1, h.ge2⟩

set_option maxHeartbeats 4000000 in
theorem plays_any (nn : Nat) (a : Option Addr) (cap L : Nat) (kd xx kk : Nat → Int) (w : World) (hn : nn < 65536) (hC : IsC w a L kd xx kk) (hl : L ≤ maxLen) :
    Calls Try.prog 10 #[.int .u16 (nn : Nat), .slice a L cap] w fun e w' => ∃ b mb mg f, e = .returned (.tuple #[.pointer (some ⟨b, 0, none⟩), .pointer (some ⟨mb, 0, none⟩), .bool true]) ∧ Played w w' b mb mg (nn % 600) f := by
  have HC : Hid (IsC w a L kd xx kk) := hC
  obtain ⟨N, hN⟩ : ∃ N, nn % 600 = N := ⟨_, rfl⟩
  have hN6 : N < 600 := by omega
  have hNI : (nn : Int) % 600 = (N : Int) := by omega
  rw [hN]
  unfold maxLen at hl
  clear hC hN
  go_enter Try.func10, Try.ntmps10
  go_wp2_with fail
  refine (new_any N _ (by omega)).mono ?_
  rintro e w1 ⟨rfl, i1, b1⟩
  have I1 : Hid (IsR w1 (fun k => w.heap.size ≤ k) w.heap.size N (fun _ => false)) := i1
  have B1 : Hid (Below w.heap.size w w1) := b1
  clear i1 b1
  go_wp2_with fail
  refine (rnew_any N _ (by omega)).mono ?_
  rintro e w2 ⟨rfl, r2, b2, s2⟩
  obtain ⟨mb, hmb⟩ : ∃ mb, w1.heap.size + 1 = mb := ⟨_, rfl⟩
  obtain ⟨mg, hmg⟩ : ∃ mg, w1.heap.size = mg := ⟨_, rfl⟩
  have P2 : Hid (Played w w2 w.heap.size mb mg N (fun _ => false)) := by
    have hz := B1.out.size
    refine ⟨⟨?_, ?_, fun e => e.2.1 rfl, fun e => e.2.2 rfl, fun i hi => ⟨by omega, by omega, by omega⟩⟩, B1.out.trans (b2.mono hz), by omega, by omega⟩
    · exact (I1.out.mono (T := Mine w.heap.size mb mg) (fun i hi hs => ⟨hs, by omega, by omega⟩)).keep b2
    · rw [← hmb, ← hmg]; exact r2
  obtain ⟨b, hb⟩ : ∃ b, w.heap.size = b := ⟨_, rfl⟩
  have hPb : Played w w2 b mb mg N (fun _ => false) := by have q := P2.out; rw [hb] at q; exact q
  have PB : Hid (Played w w2 b mb mg N (fun _ => false)) := hPb
  rw [hmb]
  clear r2 b2 s2 hmb hmg hPb P2 hNI
  rw [hb]
  have HB : Hid (w.heap.size = b) := hb
  clear hb
  go_wp2
  go_loopw [12] (fun iv wr => ∃ (i : Nat) (f : Nat → Bool), i ≤ L ∧ i ≤ 200 ∧ iv = .int .i64 (i : Nat) ∧ Played w wr b mb mg N f) (fun iv _ => 200 - (intOf iv).toNat)
  case atStart => exact ⟨0, _, Nat.zero_le _, Nat.zero_le _, rfl, PB.out⟩
  case round =>
    clear PB
    obtain ⟨i, f, hi, hi2, rfl, hP⟩ := hrel
    rename World => wr
    have HP : Hid (Played w wr b mb mg N f) := hP
    clear hP
    by_cases hlt : i < L
    · by_cases hlt2 : i < 200
      · obtain ⟨hrg, h0 | ⟨ba, off, rfl, hba, hc⟩⟩ := HC.out
        · omega
        · obtain ⟨c0, c1, c2⟩ := hc i hlt
          obtain ⟨r1, r2⟩ := hrg i hlt
          obtain ⟨v0, hv0⟩ : ∃ v, kd i = v := ⟨_, rfl⟩
          obtain ⟨v1, hv1⟩ : ∃ v, xx i = v := ⟨_, rfl⟩
          obtain ⟨v2, hv2⟩ : ∃ v, kk i = v := ⟨_, rfl⟩
          rw [hv0] at c0
          rw [hv1] at c1 r1
          rw [hv2] at c2 r2
          have d0 := bcellL HP.out.low hba c0
          have d1 := bcellL HP.out.low hba c1
          have d2 := bcellL HP.out.low hba c2
          have hlt' : (i : Int) < (L : Int) := by omega
          have hltb : (i : Int) < 200 := by omega
          clear hc hrg hv0 hv1 hv2 c0 c1 c2
          go_wp2_with (go_at_call 11; refine (do_any (Mine w.heap.size mb mg) b mb mg N f v0 v1 v2 _ HP.out.two (by omega) r1 r2).mono ?_; rintro e w9 ⟨rfl, f9, t9, u9⟩; have P9 : Hid (Played w w9 b mb mg N f9) := HP.out.next t9 u9; clear t9 u9)
          go_roundw
          case rel => exact ⟨i + 1, f9, by omega, by omega, by go_num, P9.out⟩
          case measure => simp [intOf]; omega
      · obtain rfl : i = 200 := by omega
        have hlt' : (200 : Int) < (L : Int) := by omega
        go_wp2
        refine bodyPost_ret (v := .tuple #[.pointer (some ⟨b, 0, none⟩), .pointer (some ⟨mb, 0, none⟩), .bool true]) (by simp [results, Try.results10, go_sem]) rfl ⟨b, mb, mg, f, rfl, HP.out⟩
    · obtain rfl : i = L := by omega
      go_wp2
      refine bodyPost_ret (v := .tuple #[.pointer (some ⟨b, 0, none⟩), .pointer (some ⟨mb, 0, none⟩), .bool true]) (by simp [results, Try.results10, go_sem]) rfl ⟨b, mb, mg, f, rfl, HP.out⟩
end Go.Proofs.Ytdpkmlkckhhcgaa
