/- CnC: out of FrC. -/
import Derived.Test.YtgmmgklcndnehaaDoorGzAD
import Derived.Test.YtgmmgklcndnehaaDoorGzAC
set_option linter.unusedVariables false
set_option maxRecDepth 4000
set_option maxRecDepth 4000
namespace Go.Proofs.YtgmmgklcndnehaaDoor
open Go.RowKit

theorem step_bits (y : Nat) (h : y < 4294967296) : bits BinOp.xor IntKind.u32 ((y : Int) / 2) ((y : Int) % 2 * 2197175160) = (step y : Nat) := by
  have e := u32_xor_nat (y / 2) (y % 2 * 2197175160) (by omega) (by omega)
  rw [step, ← e]
  congr 1
  all_goals omega

theorem eight_any (x : Int) (m : Nat) (e : x = m) (h : m < 4294967296) (w : World) :
    Calls Tryd.prog 69 #[.int .u32 x] w fun e w' => e = .returned (.int .u32 (steps 8 m : Nat)) ∧ w = w' := by
  subst e
  go_enter Tryd.func69, Tryd.ntmps69
  go_wp2
  go_loop [0, 4] (fun n i => ∃ k : Nat, k ≤ 8 ∧ i = .int .i64 k ∧ n = .int .u32 (steps k m : Nat)) (fun _ i => 8 - (intOf i).toNat)
  case atStart => exact ⟨0, Nat.zero_le _, rfl, rfl⟩
  case round =>
    obtain ⟨k, hk, rfl, rfl⟩ := hrel
    have hlt := steps_lt k m h
    by_cases h8 : k < 8
    · go_wp2
      go_round
      case rel => exact ⟨k + 1, by omega, by go_num, by rw [step_bits _ hlt, steps_one]⟩
      case measure => simp [intOf]; omega
    · obtain rfl : k = 8 := by omega
      go_wp2
      go_ret
      exact ⟨rfl, rfl⟩

theorem not_bits (y : Nat) (h : y < 4294967296) : bits BinOp.xor IntKind.u32 IntKind.u32.max (y : Int) = (y ^^^ 4294967295 : Nat) := by
  have e := u32_xor_nat 4294967295 y (by decide) h
  rw [Nat.xor_comm, ← e]
  rfl

theorem byte_bits (y : Nat) (c : Int) (h : y < 4294967296) (h0 : 0 ≤ c) (h1 : c ≤ 255) : bits BinOp.xor IntKind.u32 (y : Int) c = (y ^^^ c.toNat : Nat) := by
  have e := u32_xor y c (by omega) (by omega) h0 (by omega)
  simpa using e

theorem moreF_snoc (l : List Int) (x k : Nat) (h : k < l.length) : moreF x (l.take (k + 1)) = steps 8 (moreF x (l.take k) ^^^ l[k].toNat) := by
  rw [List.take_succ_eq_append_getElem h, moreF_append]
  rfl

theorem more_any (s : Int) (m : Nat) (a : Option Addr) (cap : Nat) (l : List Int) (w : World) (es : s = m) (hs : m < 4294967296) (h : IsB w a l) (hm : l.length ≤ maxLen) :
    Calls Tryd.prog 65 #[.int .u32 s, .slice a l.length cap] w fun e w' => e = .returned (.int .u32 (moreL m l : Nat)) ∧ w = w' := by
  subst es
  obtain ⟨hb, hl⟩ := h
  have hx : m ^^^ 4294967295 < 4294967296 := xor_lt hs (by decide)
  have hfin := fun k => moreF_lt (l.take k) _ (fun c hc => hb c (List.mem_of_mem_take hc)) hx
  unfold maxLen at hm
  go_enter Tryd.func65, Tryd.ntmps65
  go_wp2
  go_loop [5, 12] (fun n i => ∃ k : Nat, k ≤ l.length ∧ i = .int .i64 k ∧ n = .int .u32 (moreF (m ^^^ 4294967295) (l.take k) : Nat)) (fun _ i => l.length - (intOf i).toNat)
  case atStart => exact ⟨0, Nat.zero_le _, rfl, by rw [not_bits m hs]; rfl⟩
  case round =>
    obtain ⟨k, hk, rfl, rfl⟩ := hrel
    have hlt := hfin k
    by_cases hkl : k < l.length
    · obtain rfl | ⟨b, off, rfl, hsz, hc⟩ := hl
      · exact absurd hkl (by simp)
      have hcell := hc k hkl
      have hbk := hb l[k] (List.getElem_mem hkl)
      go_wp2_with fail
      refine (eight_any _ (moreF (m ^^^ 4294967295) (l.take k) ^^^ l[k].toNat) ?_ (xor_lt hlt (by omega)) _).mono ?_
      · exact byte_bits _ _ hlt hbk.1 hbk.2
      · rintro e w1 ⟨rfl, rfl⟩
        go_wp2
        go_round
        case rel => exact ⟨k + 1, by omega, by go_num, by rw [moreF_snoc l _ k hkl]⟩
        case measure => simp [intOf]; omega
    · obtain rfl : k = l.length := by omega
      go_wp2
      go_ret
      refine ⟨ret_int ?_, rfl⟩
      rw [List.take_length] at hlt
      rw [not_bits _ hlt]
      rfl

theorem sum_any (a : Option Addr) (cap : Nat) (l : List Int) (w : World) (h : IsB w a l) (hm : l.length ≤ maxLen) :
    Calls Tryd.prog 52 #[.slice a l.length cap] w fun e w' => e = .returned (.int .u32 (moreL 0 l : Nat)) ∧ w = w' := by
  go_enter Tryd.func52, Tryd.ntmps52
  go_wp2_with (go_at_call 65; refine (more_any 0 0 a cap l _ rfl (by decide) h hm).mono ?_; rintro e w' ⟨rfl, rfl⟩)
  go_ret
  exact ⟨rfl, rfl⟩

/-- Sum, its length and what it answers told apart. -/
theorem sum_of (a : Option Addr) (cap n : Nat) (l : List Int) (w : World) (hn : n = l.length) (h : IsB w a l) (hm : l.length ≤ maxLen) :
    Calls Tryd.prog 52 #[.slice a n cap] w fun e w' => e = .returned (.int .u32 (sumI l)) ∧ w = w' := by
  subst hn; exact sum_any a cap l w h hm

end Go.Proofs.YtgmmgklcndnehaaDoor

/- CnD: out of ArC. -/
set_option linter.unusedVariables false
set_option maxRecDepth 4000
set_option maxRecDepth 4000
namespace Go.Proofs.YtgmmgklcndnehaaDoor
open Go.RowKit

def lenOf : Value → Nat
  | .slice _ k _ => k
  | _ => 0

end Go.Proofs.YtgmmgklcndnehaaDoor

/- What Image answers. -/
namespace Go.Proofs.YtgmmgklcndnehaaDoor
open Go.RowKit Go.Maps
set_option linter.unusedVariables false
set_option maxRecDepth 4000

theorem info5 : (Tryd.prog.info? 5).map (fun i => (i.zero, i.size, i.bytes)) = some (some (.int .u8 0), 1, 1) := by kernel_rfl

theorem make_row (c : Nat) (hc : c ≤ 1000000000000) (w : World) : (Instr.makeSlice 22 (.int .i64 (c : Int)) (.int .i64 (c : Int))).run Tryd.prog w = .ok (.slice (some ⟨w.heap.size, 0, none⟩) c c) (w.alloc (.cells (madeCells #[.int .u8 0] c) 5)) :=
  run_make_row' (P := Tryd.prog) 22 5 (.int .u8 0) 1 Tryd.underlying22 info5 rfl .i64 .i64 c (by omega) (by omega) w

theorem made_zero (c : Nat) : madeCells #[.int .u8 0] c = (cellsB (List.replicate c 0)).toArray := by
  apply Array.ext_getElem?
  intro i
  by_cases h : i < c
  · rw [show (madeCells #[Value.int .u8 0] c)[i]? = some (.int .u8 0) from by simp [madeCells, h, Nat.mod_one]]
    simp [cellsB, h]
  · rw [Array.getElem?_eq_none (by simp [madeCells]; omega), Array.getElem?_eq_none (by simp [cellsB]; omega)]

theorem secsL_zeros : ∀ n, secsL (fun _ => zeros) n = List.replicate (64 * n) 0
  | 0 => rfl
  | n + 1 => by rw [secsL, secsL_zeros n, zeros, List.replicate_append_replicate, show 64 * n + 64 = 64 * (n + 1) from by omega]

theorem grown_below {w w' : World} (h : Below w.heap.size w w') (row : Option Nat) : w.grownBy w' row := ⟨h.os, h.tape, h.output, h.size, fun k hk _ => h.block k hk⟩
theorem grown_only {g : Nat} {w w' : World} (h : Only g w w') : w.grownBy w' (some g) := ⟨h.os, h.tape, h.output, Nat.le_of_eq h.size.symm, fun k _ hk => h.block k (fun e => hk (by rw [e]))⟩

theorem lit_same {a b : Int} : (Lit.int .i64 a).sameKey (.int .i64 b) = decide (a = b) := by
  by_cases h : a = b
  · subst h; simp [Lit.sameKey]
  · simp [Lit.sameKey, h]

theorem wpList_nextS {ops : Array Oper} {rest : List Oper} {o : Oper} {a : Act} {Q : Exit → Act → World → Prop} (w : World) (hg : o.guard = none) (it : Operand) (hop : o.op = Op.next it false) (bs r n : Nat) (D : DataW (List Value)) (f : Int → Option (List Int))
    (hh : ∀ i, Maps.has D (.int .i64 i) = (f i).isSome) (hv : ∀ i l, f i = some l → ∀ z, D.atKey (.int .i64 i) z = .held (cellsB l)) (left : Lit → Bool) (cnt : Nat)
    (hit : a.eval it = .pointer (some ⟨r, 0, none⟩)) (h : w.ranges Tryd.prog 3 secElem bs r n D left cnt)
    (hDone : (∀ kl, left kl = false) → wpList Tryd.prog ops Q rest (a.put o.dst (.tuple #[.bool false])) w)
    (hMore : ∀ (x : Int) (l : List Int) (w' : World) (cnt' : Nat), f x = some l → left (.int .i64 x) = true → w'.ranges Tryd.prog 3 secElem bs r n D (fun z => left z && !z.sameKey (.int .i64 x)) cnt' → cnt' < cnt →
      w.grownBy w' (some r) → w'.heap.size = w.heap.size → (Instr.entry (.pointer (some ⟨r, 0, none⟩))).run Tryd.prog w' = .ok (.tuple #[.int .i64 x, .agg (cellsB l).toArray]) w' → wpList Tryd.prog ops Q rest (a.put o.dst (.tuple #[.bool true, .int .i64 x, .agg (cellsB l).toArray])) w') :
    wpList Tryd.prog ops Q (o :: rest) a w := by
  refine wpList_next_ranges w hg it hop 3 law secElem (Value.int .i64) (fun cs : List Value => .agg cs.toArray) (fun key kl hk => ?_) (fun v y hy => ?_) bs r n D left cnt hit h (fun _ h0 => hDone h0) (fun x c kl y w' cnt' hk hl hy hat hrg hlt hgr hsz hen => ?_)
  · obtain ⟨x, rfl, _⟩ := Maps.keyOf_int_inv Tryd.underlying3 hk; exact ⟨x, rfl⟩
  · obtain ⟨cs, rfl, _⟩ := secElem_inv hy; exact ⟨cs, rfl⟩
  · obtain ⟨x', ex, rfl, _⟩ := Maps.keyOf_int_inv Tryd.underlying3 hk
    cases ex
    have hhas := Maps.has_true_of_atKey hat
    rw [hh] at hhas
    obtain ⟨l, hl'⟩ := Option.isSome_iff_exists.1 hhas
    have e1 := hat (.held [])
    rw [hv x l hl'] at e1
    rw [secElem_mk] at hy
    cases hy
    simp at e1
    subst e1
    exact hMore x l w' cnt' hl' hl hrg hlt hgr hsz hen

/-- The sectors that have been told so far. -/
def toldS (f : Int → Option (List Int)) (left : Lit → Bool) : Nat → List Int := fun i => if left (.int .i64 (i : Nat)) = true then zeros else (f i).getD zeros

theorem toldS_start {f : Int → Option (List Int)} {D : DataW (List Value)} (hh : ∀ i, Maps.has D (.int .i64 i) = (f i).isSome) (n : Nat) : secsL (toldS f (Maps.has D)) n = List.replicate (64 * n) 0 := by
  rw [← secsL_zeros]
  refine secsL_congr (fun i _ => ?_)
  unfold toldS
  rw [hh]
  cases hf : f i <;> simp
theorem toldS_step {f : Int → Option (List Int)} {left : Lit → Bool} {k : Nat} {l : List Int} (hf : f k = some l) : toldS f (fun z => left z && !z.sameKey (.int .i64 (k : Nat))) = updS (toldS f left) k l := by
  funext i
  unfold toldS updS
  simp only [lit_same]
  by_cases e : i = k
  · subst e; simp [hf]
  · have e' : ¬ (i : Int) = (k : Int) := by omega
    simp [e, e']
theorem toldS_len {f : Int → Option (List Int)} {left : Lit → Bool} {n : Nat} (h : ∀ i, i < n → ((f (i : Nat)).getD zeros).length = 64) : ∀ i, i < n → (toldS f left i).length = 64 := by
  intro i hi
  unfold toldS
  split
  · exact zeros_len
  · exact h i hi
end Go.Proofs.YtgmmgklcndnehaaDoor
