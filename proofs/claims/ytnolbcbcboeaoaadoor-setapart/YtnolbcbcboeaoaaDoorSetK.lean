/- How an argument that is a slice of calls is opened for the laws; what Ints and Same answer. -/
import Derived.Test.YtnolbcbcboeaoaaDoorSetL
import Derived.Test.YtnolbcbcboeaoaaDoorSetS
import Derived.Laws.IdiomStrings
import Derived.Deep.QuietTactic
import Derived.BigQuiet
namespace Go.Proofs.YtnolbcbcboeaoaaDoor
open Go.ChangeShapes Go.WideShapes Go.ChangeAt Go.RowKit
set_option linter.unusedVariables false

/-- A slice of calls: what its cells hold. -/
def IsC (w : World) (a : Option Addr) (n : Nat) (kd ii : Nat → Int) : Prop :=
  n = 0 ∨ ∃ b off, a = some ⟨b, off, none⟩ ∧ b < w.heap.size ∧ ∀ i, i < n →
    w.cell? ⟨b, off + i * 2, none⟩ = some (.int .i64 (kd i)) ∧ w.cell? ⟨b, off + i * 2 + 1, none⟩ = some (.int .i64 (ii i))

theorem IsC.keep {w w' : World} {a : Option Addr} {n : Nat} {kd ii : Nat → Int} (h : IsC w a n kd ii) (hb : Below w.heap.size w w') : IsC w' a n kd ii := by
  rcases h with h | ⟨b, off, e, hs, hc⟩
  · exact .inl h
  · refine .inr ⟨b, off, e, by have := hb.size; omega, fun i hi => ?_⟩
    rw [hb.cell (p := ⟨b, off + i * 2, none⟩) hs, hb.cell (p := ⟨b, off + i * 2 + 1, none⟩) hs]
    exact hc i hi

theorem Tryd.cellsCall : Tryd.prog.cellsOf 52 = 2 := by kernel_rfl

theorem open_calls {H : Type} {enc : TypeId × Value → H} {W : World} {a : Option Addr} {len cap : Nat} {d : DataW H} {p : List MemPlace} (h : DataW.Trod enc Tryd.prog W 0 (fun _ => true) true 22 (.slice a len cap) d p) :
    ∃ kd ii : Nat → Int, IsC W a len kd ii ∧ len ≤ maxLen ∧ ∀ i, i < len → kd i ≤ 9223372036854775807 ∧ ii i ≤ 9223372036854775807 := by
  obtain ⟨fuel, hf⟩ := h
  rcases Deep.open_slice_pairs Tryd.underlying22 Tryd.underlying52 Tryd.cellsCall rfl rfl Tryd.cells3 Tryd.cells3 hf with ⟨hcs, hx⟩ | ⟨x, l, c, m, n, V0, V1, D0, D1, P0, P1, hcs, hb, hl, hm, hmm, hx, hcell⟩
  · simp [Value.cells] at hcs
    obtain ⟨rfl, rfl, rfl⟩ := hcs
    exact ⟨fun _ => 0, fun _ => 0, .inl rfl, Nat.zero_le _, fun i hi => absurd hi (Nat.not_lt_zero _)⟩
  · simp [Value.cells] at hcs
    obtain ⟨rfl, rfl, rfl⟩ := hcs
    simp only [if_true] at hmm
    subst hmm
    have each : ∀ i, i < len → ∃ q : Int × Int, W.cell? (x.add (i * 2)) = some (.int .i64 q.1) ∧ W.cell? (x.add (i * 2 + 1)) = some (.int .i64 q.2) ∧ q.1 ≤ 9223372036854775807 ∧ q.2 ≤ 9223372036854775807 := by
      intro i hi
      obtain ⟨h1, h2, h3, h4⟩ := hcell i (by omega)
      obtain ⟨z0, e0, _, f0⟩ := DataW.trod_int Tryd.underlying3 h3
      obtain ⟨z1, e1, _, f1⟩ := DataW.trod_int Tryd.underlying3 h4
      simp at e0 e1
      rw [e0] at h1
      rw [e1] at h2
      refine ⟨(z0, z1), h1, h2, ?_, ?_⟩
      · simp [Lit.wf, IntKind.min, IntKind.max, IntKind.signed, IntKind.bits] at f0; show z0 ≤ _; omega
      · simp [Lit.wf, IntKind.min, IntKind.max, IntKind.signed, IntKind.bits] at f1; show z1 ≤ _; omega
    obtain ⟨q, hq⟩ := Deep.choose_lt each
    refine ⟨fun i => (q i).1, fun i => (q i).2, ?_, by omega, fun i hi => (hq i hi).2.2⟩
    by_cases h0 : len = 0
    · exact .inl h0
    · obtain ⟨b, off, spot⟩ := x
      have h1 := (hq 0 (by omega)).1
      have hspot : spot = none := by simpa [Addr.add] using World.cell?_spot h1
      subst hspot
      refine .inr ⟨b, off, rfl, ?_, ?_⟩
      · rw [addr_add] at h1
        exact lt_of_cell h1
      · intro i hi
        obtain ⟨c0, c1, _⟩ := hq i hi
        rw [addr_add] at c0 c1
        exact ⟨c0, by rw [Nat.add_assoc]; exact c1⟩

/-- Bytes as a string. -/
def bs (l : List Int) : ByteArray := ⟨(l.map (fun x => UInt8.ofNat x.toNat)).toArray⟩

theorem conv_run (w : World) (a : Option Addr) (cap : Nat) (l : List Int) (hb : ∀ x ∈ l, 0 ≤ x ∧ x ≤ 255) (hl : IsL w .u8 a l) :
    (convert 36 9 (.slice a l.length cap)).run Tryd.prog w = .ok (.string (bs l)) w := by
  rcases a with _ | ad
  · rcases hl with rfl | ⟨b, off, e, _⟩
    · rw [run_convert_bytes_string w 36 9 5 none _ cap Tryd.underlying36 Tryd.underlying5 Tryd.underlying9]
      simp [Conv.bytesToString]
      rfl
    · cases e
  · have := run_convert_bytes_back (P := Tryd.prog) w 36 9 5 ad cap (l.map (fun x => UInt8.ofNat x.toNat)) Tryd.underlying36 Tryd.underlying5 Tryd.underlying9 (by
      intro j hj
      have hj' : j < l.length := by simpa using hj
      have hx := hb l[j] (List.getElem_mem hj')
      rcases hl with rfl | ⟨b, off, e, _, hc⟩
      · simp at hj'
      · cases e
        rw [addr_add, hc j hj']
        have e1 : (l[j].toNat % 256 : Nat) = l[j].toNat := by omega
        simp [List.getD, hj', e1, Int.toNat_of_nonneg hx.1])
    rw [List.length_map] at this
    exact this

theorem same_true (a a' : Option Addr) (n n' cap cap' : Nat) (l : List Int) (w : World) (hb : ∀ x ∈ l, 0 ≤ x ∧ x ≤ 255) (h : IsL w .u8 a l) (h' : IsL w .u8 a' l) (hn : l.length = n) (hn' : l.length = n') :
    Calls Tryd.prog 16 #[.slice a n cap, .slice a' n' cap'] w fun e w' => e = .returned (.bool true) ∧ w = w' := by
  subst hn hn'
  have k1 := conv_run w a cap l hb h
  have k2 := conv_run w a' cap' l hb h'
  clear h h'
  go_enter Tryd.func16, Tryd.ntmps16
  go_wp2
  go_ret
  exact ⟨rfl, rfl⟩

theorem IsL.drewN {w : World} {k : IntKind} {a : Option Addr} {l : List Int} (h : IsL w k a l) (m : Nat) : IsL (w.drewN m) k a l := h

set_option maxHeartbeats 1000000 in
theorem ints_true (a a' : Option Addr) (n n' cap cap' : Nat) (l : List Int) (w : World) (h : IsL w .i64 a l) (h' : IsL w .i64 a' l) (hn : l.length = n) (hn' : l.length = n') (hm : l.length ≤ 65536) :
    Calls Tryd.prog 14 #[.slice a n cap, .slice a' n' cap'] w fun e w' => e = .returned (.bool true) ∧ Below w.heap.size w w' := by
  subst hn hn'
  have H1 : Hid (IsL w .i64 a l) := h
  have H2 : Hid (IsL w .i64 a' l) := h'
  clear h h'
  go_enter Tryd.func14, Tryd.ntmps14
  go_wp2
  go_loopw [13] (fun iv wr => ∃ k m : Nat, k ≤ l.length ∧ iv = .int .i64 k ∧ wr = w.drewN m) (fun iv _ => l.length - (intOf iv).toNat)
  case atStart => exact ⟨0, 0, Nat.zero_le _, rfl, rfl⟩
  case round =>
    obtain ⟨k, m, hk, rfl, rfl⟩ := hrel
    by_cases hlt : k < l.length
    · obtain h0 | ⟨b1, o1, rfl, _, c1⟩ := H1.out
      · rw [h0] at hlt; simp at hlt
      obtain h0 | ⟨b2, o2, rfl, _, c2⟩ := H2.out
      · rw [h0] at hlt; simp at hlt
      obtain ⟨y, hy⟩ : ∃ y, l.getD k 0 = y := ⟨_, rfl⟩
      have d1 := c1 k hlt
      have d2 := c2 k hlt
      rw [hy] at d1 d2
      clear c1 c2 hy
      go_wp2_with fail
      go_quiet (fail)
      go_wp2
      go_roundw
      case rel => exact ⟨k + 1, m + nq, by omega, by go_num, rfl⟩
      case measure => simp [intOf]; omega
    · obtain rfl : k = l.length := by omega
      go_wp2
      go_ret
      exact ⟨rfl, ⟨rfl, rfl, rfl, Nat.le_refl _, fun _ _ => rfl⟩⟩
end Go.Proofs.YtnolbcbcboeaoaaDoor
