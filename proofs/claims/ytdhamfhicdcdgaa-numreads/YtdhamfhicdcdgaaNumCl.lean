/- How an argument that is a slice of calls is opened for the laws. -/
import Derived.Test.YtdhamfhicdcdgaaNumFx
import Derived.Deep.Slices
import Derived.Deep.Strs
namespace Go.Proofs.Ytdhamfhicdcdgaa
open Go.ChangeShapes Go.WideShapes Go.ChangeAt Go.RowKit
set_option linter.unusedVariables false

/-- A slice of calls: what its cells hold. -/
def IsC (w : World) (a : Option Addr) (n : Nat) (kd nn mo : Nat → Int) : Prop :=
  n = 0 ∨ ∃ b off, a = some ⟨b, off, none⟩ ∧ b < w.heap.size ∧ ∀ i, i < n →
    w.cell? ⟨b, off + i * 3, none⟩ = some (.int .i64 (kd i)) ∧ w.cell? ⟨b, off + i * 3 + 1, none⟩ = some (.int .i64 (nn i)) ∧ w.cell? ⟨b, off + i * 3 + 2, none⟩ = some (.int .u64 (mo i))


theorem Try.cellsCall : Try.prog.cellsOf 40 = 3 := by kernel_rfl
theorem Try.cellsInt : Try.prog.cellsOf 3 = 1 := by kernel_rfl
theorem Try.cellsU64 : Try.prog.cellsOf 22 = 1 := by kernel_rfl

theorem open_calls {H : Type} {enc : TypeId × Value → H} {W : World} {a : Option Addr} {len cap : Nat} {d : DataW H} {p : List MemPlace} (h : DataW.Trod enc Try.prog W 0 (fun _ => true) true 32 (.slice a len cap) d p) :
    ∃ kd nn mo : Nat → Int, IsC W a len kd nn mo ∧ len ≤ maxLen ∧ ∀ i, i < len → (Lit.int .i64 (kd i)).wf = true ∧ (Lit.int .i64 (nn i)).wf = true ∧ (Lit.int .u64 (mo i)).wf = true := by
  obtain ⟨fuel, hf⟩ := h
  rcases Deep.open_slice Try.underlying32 hf with ⟨hcs, hx⟩ | ⟨x, l, c, m, n, D, Pl, hcs, hb, hl, hm, hmm, hx, hcell⟩
  · simp [Value.cells] at hcs
    obtain ⟨rfl, rfl, rfl⟩ := hcs
    exact ⟨fun _ => 0, fun _ => 0, fun _ => 0, .inl rfl, Nat.zero_le _, fun i hi => absurd hi (Nat.not_lt_zero _)⟩
  · simp [Value.cells] at hcs
    obtain ⟨rfl, rfl, rfl⟩ := hcs
    simp only [if_true] at hmm
    subst hmm
    rw [Try.cellsCall] at hcell
    have each : ∀ i, i < len → ∃ q : Int × Int × Int, W.cell? (x.add (i * 3)) = some (.int .i64 q.1) ∧ W.cell? (x.add (i * 3 + 1)) = some (.int .i64 q.2.1) ∧ W.cell? (x.add (i * 3 + 2)) = some (.int .u64 q.2.2) ∧ (Lit.int .i64 q.1).wf = true ∧ (Lit.int .i64 q.2.1).wf = true ∧ (Lit.int .u64 q.2.2).wf = true := by
      intro i hi
      obtain ⟨cs', h1, h2⟩ := hcell i (by omega)
      obtain ⟨_, hlen, hc⟩ := World.cells?_some h1
      obtain ⟨y0, y1, y2, k, _, _, g0, g1, g2⟩ := Deep.trod_struct3 Try.underlying40 h2
      match cs', hlen with
      | [u0, u1, u2], _ =>
        obtain ⟨z0, e0, _, f0⟩ := DataW.trod_int Try.underlying3 g0
        obtain ⟨z1, e1, _, f1⟩ := DataW.trod_int Try.underlying3 g1
        obtain ⟨z2, e2, _, f2⟩ := DataW.trod_int Try.underlying22 g2
        simp [Try.cellsInt, Try.cellsU64] at e0 e1 e2
        subst e0 e1 e2
        have c0 := hc 0 (by omega)
        have c1 := hc 1 (by omega)
        have c2 := hc 2 (by omega)
        rw [Deep.add_add] at c0 c1 c2
        exact ⟨(z0, z1, z2), by simpa using c0, by simpa using c1, by simpa using c2, f0, f1, f2⟩
    obtain ⟨q, hq⟩ := Deep.choose_lt each
    refine ⟨fun i => (q i).1, fun i => (q i).2.1, fun i => (q i).2.2, ?_, by omega, fun i hi => (hq i hi).2.2.2⟩
    by_cases h0 : len = 0
    · exact .inl h0
    · obtain ⟨b, off, spot⟩ := x
      have h1 := (hq 0 (by omega)).1
      have hspot : spot = none := by simpa [Addr.add] using World.cell?_spot h1
      subst hspot
      refine .inr ⟨b, off, rfl, ?_, ?_⟩
      · rw [addr_add] at h1
        exact lt_of_cell h1
      · intro i hi
        obtain ⟨c0, c1, c2, _⟩ := hq i hi
        rw [addr_add] at c0 c1 c2
        exact ⟨c0, by rw [Nat.add_assoc]; exact c1, by rw [Nat.add_assoc]; exact c2⟩
end Go.Proofs.Ytdhamfhicdcdgaa
