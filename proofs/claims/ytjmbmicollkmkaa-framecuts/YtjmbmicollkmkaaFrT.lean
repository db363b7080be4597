/- How an argument that is a slice of parts is opened; what the law FrameCuts goes through. -/
import Derived.Test.YtjmbmicollkmkaaFrN
import Derived.Test.YtjmbmicollkmkaaFrS
import Derived.Deep.SlicePairs
namespace Go.Proofs.Ytjmbmicollkmkaa
open Go.ChangeShapes Go.WideShapes Go.ChangeAt Go.RowKit
set_option linter.unusedVariables false

theorem Try.cellsPart : Try.prog.cellsOf 53 = 2 := by kernel_rfl
theorem Try.cellsInt : Try.prog.cellsOf 3 = 1 := by kernel_rfl
theorem Try.cellsBytes : Try.prog.cellsOf 22 = 1 := by kernel_rfl

theorem bytes_cell {H : Type} {enc : TypeId × Value → H} {W : World} {v : Value} {fuel : Nat} {x : DataW H × List MemPlace} (h : DataW.trod enc Try.prog W 0 (fun _ => true) true fuel 22 [v] = some x) :
    ∃ (a : Option Addr) (cap : Nat) (l : List Int), v = .slice a l.length cap ∧ IsB W a l ∧ (a = none → l = [] ∧ cap = 0) ∧ l.length ≤ maxLen := by
  rcases open_ints Try.underlying22 Try.underlying5 (by kernel_rfl) h with ⟨hcs, hx⟩ | ⟨y, l, c, zs, hcs, _, hl, hm, hz, hx, hcell, hwz⟩
  · simp at hcs
    exact ⟨none, 0, [], hcs, ⟨by simp, .inl rfl⟩, fun _ => ⟨rfl, rfl⟩, Nat.zero_le _⟩
  · simp at hcs
    simp only [if_true] at hz
    refine ⟨some y, c, zs.take l, ?_, isB_of_cells y l zs (by omega) hcell hwz, by simp, by simp; omega⟩
    rw [hcs]
    congr 1
    simp; omega

theorem open_parts {H : Type} {enc : TypeId × Value → H} {W : World} {a : Option Addr} {len cap : Nat} {d : DataW H} {p : List MemPlace} (h : DataW.Trod enc Try.prog W 0 (fun _ => true) true 51 (.slice a len cap) d p) :
    ∃ fs : List Fr, fs.length = len ∧ IsF W a fs ∧ len ≤ maxLen := by
  obtain ⟨fuel, hf⟩ := h
  rcases Deep.open_slice_pairs Try.underlying51 Try.underlying53 Try.cellsPart rfl rfl Try.cellsInt Try.cellsBytes hf with ⟨hcs, hx⟩ | ⟨x, l, c, m, n, V0, V1, D0, D1, P0, P1, hcs, hb, hl, hm, hmm, hx, hcell⟩
  · simp [Value.cells] at hcs
    obtain ⟨rfl, rfl, rfl⟩ := hcs
    exact ⟨[], rfl, isF_nil _, Nat.zero_le _⟩
  · simp [Value.cells] at hcs
    obtain ⟨rfl, rfl, rfl⟩ := hcs
    simp only [if_true] at hmm
    subst hmm
    have each : ∀ i, i < len → ∃ f : Fr, W.cell? (x.add (i * 2)) = some (.int .i64 f.k) ∧ W.cell? (x.add (i * 2 + 1)) = some (.slice f.a f.b.length f.c) ∧ IsB W f.a f.b ∧ (f.a = none → f.b = [] ∧ f.c = 0) ∧ f.b.length ≤ maxLen := by
      intro i hi
      obtain ⟨h1, h2, h3, h4⟩ := hcell i (by omega)
      obtain ⟨z0, e0, _, f0⟩ := DataW.trod_int Try.underlying3 h3
      obtain ⟨a1, c1, l1, e1, f1, f2, f3⟩ := bytes_cell h4
      simp at e0
      rw [e0] at h1
      rw [e1] at h2
      exact ⟨⟨z0, a1, c1, l1⟩, h1, h2, f1, f2, f3⟩
    have pick : ∃ q : Nat → Fr, ∀ i, i < len → W.cell? (x.add (i * 2)) = some (.int .i64 (q i).k) ∧ W.cell? (x.add (i * 2 + 1)) = some (.slice (q i).a (q i).b.length (q i).c) ∧ IsB W (q i).a (q i).b ∧ ((q i).a = none → (q i).b = [] ∧ (q i).c = 0) ∧ (q i).b.length ≤ maxLen := by
      refine ⟨fun i => if h : i < len then Classical.choose (each i h) else ⟨0, none, 0, []⟩, fun i hi => ?_⟩
      simp only [dif_pos hi]
      exact Classical.choose_spec (each i hi)
    obtain ⟨q, hq⟩ := pick
    refine ⟨(List.range len).map q, by simp, ⟨?_, ?_⟩, by omega⟩
    · by_cases h0 : len = 0
      · exact .inl (by rw [h0]; rfl)
      · obtain ⟨b, off, spot⟩ := x
        have h1 := (hq 0 (by omega)).1
        have hspot : spot = none := by simpa [Addr.add] using World.cell?_spot h1
        subst hspot
        refine .inr ⟨b, off, rfl, ?_, ?_⟩
        · rw [addr_add] at h1
          exact lt_of_cell h1
        · intro i hi
          have hi' : i < len := by simpa using hi
          obtain ⟨c0, c1, _⟩ := hq i hi'
          rw [addr_add] at c0 c1
          simp only [List.getElem_map, List.getElem_range]
          exact ⟨c0, by rw [Nat.add_assoc]; exact c1⟩
    · intro f hf
      obtain ⟨i, hi, rfl⟩ := List.mem_map.1 hf
      exact (hq i (by simpa using hi)).2.2

/-- The bytes of each, as far as it has any. -/
def wantB : List Fr → List Int
  | [] => []
  | f :: l => encB f.k f.b ++ wantB l

theorem wantB_append : ∀ (a b : List Fr), wantB (a ++ b) = wantB a ++ wantB b
  | [], _ => rfl
  | f :: a, b => by simp [wantB, wantB_append a b]
theorem wantB_take (fs : List Fr) (i : Nat) (h : i < fs.length) : wantB (fs.take (i + 1)) = wantB (fs.take i) ++ encB fs[i].k fs[i].b := by
  rw [List.take_succ_eq_append_getElem h, wantB_append]; simp [wantB]
theorem encB_len (k : Int) (b : List Int) : (encB k b).length ≤ b.length + 7 := by
  rw [encB]
  split
  · rw [frL_len]; exact Nat.le_refl _
  · simp
theorem wantB_len : ∀ (fs : List Fr) (i : Nat), (∀ j (h : j < fs.length), j < i → fs[j].b.length ≤ 2000) → (wantB (fs.take i)).length ≤ 2007 * i
  | [], i, _ => by simp [wantB]
  | f :: l, 0, _ => by simp [wantB]
  | f :: l, i + 1, h => by
    have h0 := h 0 (by simp) (by omega)
    simp only [List.getElem_cons_zero] at h0
    have := wantB_len l i (fun j hj hji => by have := h (j + 1) (by simpa using hj) (by omega); simpa using this)
    have := encB_len f.k f.b
    rw [List.take_succ_cons, wantB, List.length_append]
    omega
theorem wantB_all : ∀ (fs : List Fr), allE fs = 0 → wantB fs = allB fs
  | [], _ => rfl
  | f :: l, h => by
    rw [allE] at h
    split at h
    · rename_i h0
      rw [wantB, allB, encB, if_pos h0, wantB_all l h]
    · rename_i h0; exact absurd h h0
theorem encB_allB' {k : Int} {body : List Int} (h : AllB body) : AllB (encB k body) := by
  rw [encB]
  split
  · rename_i h0
    obtain ⟨h1, h2, _⟩ := unfit_zero.1 h0
    exact frL_allB (by omega) h2 h
  · intro x hx; cases hx
theorem wantB_allB : ∀ (fs : List Fr), (∀ f ∈ fs, AllB f.b) → AllB (wantB fs)
  | [], _ => by intro x hx; cases hx
  | f :: l, h => (encB_allB' (h f (by simp))).append (wantB_allB l (fun g hg => h g (by simp [hg])))
theorem allE_snoc : ∀ (a : List Fr) (f : Fr), allE (a ++ [f]) = if allE a = 0 then unfitL f.k f.b.length else allE a
  | [], f => by
    simp only [List.nil_append, allE, if_true]
    split
    · rename_i h; rw [h]
    · rfl
  | g :: a, f => by
    rw [List.cons_append, allE, allE]
    split
    · exact allE_snoc a f
    · rfl
theorem allE_take (fs : List Fr) (i : Nat) (h : i < fs.length) : allE (fs.take (i + 1)) = if allE (fs.take i) = 0 then unfitL fs[i].k fs[i].b.length else allE (fs.take i) := by
  rw [List.take_succ_eq_append_getElem h, allE_snoc]
theorem allE_fit : ∀ (fs : List Fr), allE fs = 0 → ∀ f ∈ fs, 1 ≤ f.k ∧ f.k ≤ 255 ∧ f.b.length ≤ 65535
  | [], _, f, hf => by cases hf
  | g :: l, h, f, hf => by
    rw [allE] at h
    split at h
    · rename_i h0
      rcases List.mem_cons.1 hf with rfl | hf
      · exact unfit_zero.1 h0
      · exact allE_fit l h f hf
    · rename_i h0; exact absurd h h0
end Go.Proofs.Ytjmbmicollkmkaa
