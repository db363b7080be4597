/- What Image answers. -/
import Derived.Test.YtofmicbhheebiaaDkL
namespace Go.Proofs.Ytofmicbhheebiaa
open Go.RowKit Go.Maps
set_option linter.unusedVariables false
set_option maxRecDepth 4000

theorem info5 : (Try.prog.info? 5).map (fun i => (i.zero, i.size, i.bytes)) = some (some (.int .u8 0), 1, 1) := by kernel_rfl

theorem make_row (c : Nat) (hc : c ≤ 1000000000000) (w : World) : (Instr.makeSlice 25 (.int .i64 (c : Int)) (.int .i64 (c : Int))).run Try.prog w = .ok (.slice (some ⟨w.heap.size, 0, none⟩) c c) (w.alloc (.cells (madeCells #[.int .u8 0] c) 5)) :=
  run_make_row' (P := Try.prog) 25 5 (.int .u8 0) 1 Try.underlying25 info5 rfl .i64 .i64 c (by omega) (by omega) w

theorem made_zero (c : Nat) : madeCells #[.int .u8 0] c = (cellsB (List.replicate c 0)).toArray := by
  apply Array.ext_getElem?
  intro i
  by_cases h : i < c
  · rw [show (madeCells #[Value.int .u8 0] c)[i]? = some (.int .u8 0) from by simp [madeCells, h, Nat.mod_one]]
    simp [cellsB, h]
  · rw [Array.getElem?_eq_none (by simp [madeCells]; omega), Array.getElem?_eq_none (by simp [cellsB]; omega)]

theorem secsL_zeros : ∀ n, secsL (fun _ => zeros) n = List.replicate (64 * n) 0
  | 0 => rfl
  | n + 1 => by rw [secsL, secsL_zeros n, zeros, List.replicate_append_replicate, show 64 * n + 64 = 64 * (n + 1) from by omega]

theorem grown_below {w w' : World} (h : Below w.heap.size w w') (row : Option Nat) : w.grownBy w' row := ⟨h.os, h.tape, h.output, h.size, fun k hk _ => h.block k hk⟩
theorem grown_only {g : Nat} {w w' : World} (h : Only g w w') : w.grownBy w' (some g) := ⟨h.os, h.tape, h.output, Nat.le_of_eq h.size.symm, fun k _ hk => h.block k (fun e => hk (by rw [e]))⟩

theorem lit_same {a b : Int} : (Lit.int .i64 a).sameKey (.int .i64 b) = decide (a = b) := by
  by_cases h : a = b
  · subst h; simp [Lit.sameKey]
  · simp [Lit.sameKey, h]

theorem wpList_nextS {ops : Array Oper} {rest : List Oper} {o : Oper} {a : Act} {Q : Exit → Act → World → Prop} (w : World) (hg : o.guard = none) (it : Operand) (hop : o.op = Op.next it false) (bs r n : Nat) (D : DataW (List Value)) (f : Int → Option (List Int))
    (hh : ∀ i, Maps.has D (.int .i64 i) = (f i).isSome) (hv : ∀ i l, f i = some l → ∀ z, D.atKey (.int .i64 i) z = .held (cellsB l)) (left : Lit → Bool) (cnt : Nat)
    (hit : a.eval it = .pointer (some ⟨r, 0, none⟩)) (h : w.ranges Try.prog 3 secElem bs r n D left cnt)
    (hDone : (∀ kl, left kl = false) → wpList Try.prog ops Q rest (a.put o.dst (.tuple #[.bool false])) w)
    (hMore : ∀ (x : Int) (l : List Int) (w' : World) (cnt' : Nat), f x = some l → left (.int .i64 x) = true → w'.ranges Try.prog 3 secElem bs r n D (fun z => left z && !z.sameKey (.int .i64 x)) cnt' → cnt' < cnt →
      w.grownBy w' (some r) → w'.heap.size = w.heap.size → (Instr.entry (.pointer (some ⟨r, 0, none⟩))).run Try.prog w' = .ok (.tuple #[.int .i64 x, .agg (cellsB l).toArray]) w' → wpList Try.prog ops Q rest (a.put o.dst (.tuple #[.bool true, .int .i64 x, .agg (cellsB l).toArray])) w') :
    wpList Try.prog ops Q (o :: rest) a w := by
  refine wpList_next_ranges w hg it hop 3 law secElem (Value.int .i64) (fun cs : List Value => .agg cs.toArray) (fun key kl hk => ?_) (fun v y hy => ?_) bs r n D left cnt hit h (fun _ h0 => hDone h0) (fun x c kl y w' cnt' hk hl hy hat hrg hlt hgr hsz hen => ?_)
  · obtain ⟨x, rfl, _⟩ := Maps.keyOf_int_inv Try.underlying3 hk; exact ⟨x, rfl⟩
  · obtain ⟨cs, rfl, _⟩ := secElem_inv hy; exact ⟨cs, rfl⟩
  · obtain ⟨x', ex, rfl, _⟩ := Maps.keyOf_int_inv Try.underlying3 hk
    cases ex
    have hhas := Maps.has_true_of_atKey hat
    rw [hh] at hhas
    obtain ⟨l, hl'⟩ := Option.isSome_iff_exists.1 hhas
    have e1 := hat (.held [])
    rw [hv x l hl'] at e1
    rw [secElem_mk] at hy
    cases hy
    simp at e1
    subst e1
    exact hMore x l w' cnt' hl' hl hrg hlt hgr hsz hen

/-- The sectors that have been told so far. -/
def toldS (f : Int → Option (List Int)) (left : Lit → Bool) : Nat → List Int := fun i => if left (.int .i64 (i : Nat)) = true then zeros else (f i).getD zeros

theorem toldS_start {f : Int → Option (List Int)} {D : DataW (List Value)} (hh : ∀ i, Maps.has D (.int .i64 i) = (f i).isSome) (n : Nat) : secsL (toldS f (Maps.has D)) n = List.replicate (64 * n) 0 := by
  rw [← secsL_zeros]
  refine secsL_congr (fun i _ => ?_)
  unfold toldS
  rw [hh]
  cases hf : f i <;> simp
theorem toldS_step {f : Int → Option (List Int)} {left : Lit → Bool} {k : Nat} {l : List Int} (hf : f k = some l) : toldS f (fun z => left z && !z.sameKey (.int .i64 (k : Nat))) = updS (toldS f left) k l := by
  funext i
  unfold toldS updS
  simp only [lit_same]
  by_cases e : i = k
  · subst e; simp [hf]
  · have e' : ¬ (i : Int) = (k : Int) := by omega
    simp [e, e']
theorem toldS_len {f : Int → Option (List Int)} {left : Lit → Bool} {n : Nat} (h : ∀ i, i < n → ((f (i : Nat)).getD zeros).length = 64) : ∀ i, i < n → (toldS f left i).length = 64 := by
  intro i hi
  unfold toldS
  split
  · exact zeros_len
  · exact h i hi
end Go.Proofs.Ytofmicbhheebiaa
