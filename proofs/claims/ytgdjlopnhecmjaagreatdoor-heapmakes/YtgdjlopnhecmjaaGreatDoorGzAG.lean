/- Bytes and numbers, good bases: memory and contracts, the code's and the document's -/
import Derived.Test.YtgdjlopnhecmjaaGreatDoorLaA
import Derived.Lib.SlBytesConst
import Derived.Lib.BitFns
import Derived.Deep.RegionHeld3
import Derived.BigQuiet
import Derived.Maps.Ext
import Derived.Maps.RangeWalk
namespace Go.Proofs.YtgdjlopnhecmjaaGreatDoor
open Go.RowKit
set_option linter.unusedVariables false
set_option maxRecDepth 4000


/-- The width that counts. -/
def clampW (n : Int) : Int := if n < 0 then 0 else if n > 8 then 8 else n
/-- The lowest k bytes of n. -/
def putL : Nat → Int → List Int
  | 0, _ => []
  | k + 1, n => n % 256 :: putL k (n / 256)
/-- The number of bytes. -/
def getL : List Int → Int
  | [] => 0
  | b :: l => b + 256 * getL l
theorem or_join (k : Nat) (a b : Int) (h0 : 0 ≤ a) (h1 : a < 2 ^ k) (hb : 0 ≤ b) (hs : a + b * 2 ^ k < 18446744073709551616) :
    bits .or .u64 a (b * 2 ^ k) = a + b * 2 ^ k := by
  have hp : (0 : Int) < 2 ^ k := Int.pow_pos (by decide)
  have hbp : 0 ≤ b * 2 ^ k := Int.mul_nonneg hb (by omega)
  rw [u64_or a (b * 2 ^ k) h0 (by omega) hbp (by omega)]
  have e2 : ((2 ^ k : Nat) : Int) = (2 : Int) ^ k := by simp
  have e1 : (b * 2 ^ k).toNat = b.toNat * 2 ^ k := by
    have : b * 2 ^ k = ((b.toNat * 2 ^ k : Nat) : Int) := by rw [Int.natCast_mul, e2, Int.toNat_of_nonneg hb]
    rw [this, Int.toNat_natCast]
  rw [e1, Nat.or_comm, nat_join k _ _ (by simp) (by omega)]
  have : ((b.toNat * 2 ^ k : Nat) : Int) = b * 2 ^ k := by rw [Int.natCast_mul, e2, Int.toNat_of_nonneg hb]
  omega
theorem getL_nonneg (l : List Int) (h : ∀ x ∈ l, 0 ≤ x ∧ x ≤ 255) : 0 ≤ getL l := by
  induction l with
  | nil => simp [getL]
  | cons a l ih =>
    have := ih (fun x hx => h x (List.mem_cons_of_mem _ hx))
    have := h a (List.mem_cons_self)
    simp only [getL]
    omega
theorem getL_lt (l : List Int) (h : ∀ x ∈ l, 0 ≤ x ∧ x ≤ 255) : getL l < 256 ^ l.length := by
  induction l with
  | nil => simp [getL]
  | cons a l ih =>
    have := ih (fun x hx => h x (List.mem_cons_of_mem _ hx))
    have := h a (List.mem_cons_self)
    simp only [getL, List.length_cons]
    rw [Int.pow_succ]
    omega
theorem getL_snoc (l : List Int) (x : Int) : getL (l ++ [x]) = getL l + x * 256 ^ l.length := by
  induction l with
  | nil => simp [getL]
  | cons a l ih =>
    simp only [List.cons_append, getL, ih, List.length_cons]
    rw [Int.pow_succ]
    generalize (256 : Int) ^ l.length = p
    rw [Int.mul_add, ← Int.mul_assoc, Int.mul_comm 256 x, Int.mul_assoc, Int.mul_comm 256 p]
    omega
theorem pow_bits (k : Nat) : (256 : Int) ^ k = 2 ^ (8 * k) := by
  rw [Int.pow_mul]; rfl
theorem take_same (l : List Int) (k : Nat) (h8 : k ≤ 8) (hl : k ≤ l.length) (h : ¬ (k < 8 ∧ k < l.length)) : l.take 8 = l.take k := by
  by_cases e : k = 8
  · rw [e]
  · rw [List.take_of_length_le (by omega), List.take_of_length_le (by omega)]
theorem p256_mono (m n : Nat) (h : m ≤ n) : (256 : Int) ^ m ≤ 256 ^ n := by
  induction n with
  | zero => obtain rfl : m = 0 := by omega
            exact Int.le_refl _
  | succ n ih =>
    by_cases e : m = n + 1
    · rw [e]; exact Int.le_refl _
    · have := ih (by omega)
      have hp : (0 : Int) < 256 ^ n := Int.pow_pos (by decide)
      rw [Int.pow_succ]
      omega
theorem getL_take_bd (l : List Int) (k : Nat) (hb : ∀ x ∈ l, 0 ≤ x ∧ x ≤ 255) (h8 : k ≤ 8) : 0 ≤ getL (l.take k) ∧ getL (l.take k) < 18446744073709551616 := by
  have hb' : ∀ x ∈ l.take k, 0 ≤ x ∧ x ≤ 255 := fun x hx => hb x (List.mem_of_mem_take hx)
  refine ⟨getL_nonneg _ hb', ?_⟩
  have h1 := getL_lt _ hb'
  have h2 : (l.take k).length ≤ 8 := by have := List.length_take_le k l; omega
  have h3 := p256_mono _ _ h2
  have h4 : (256 : Int) ^ 8 = 18446744073709551616 := by decide
  omega
theorem get_step (l : List Int) (k : Nat) (hb : ∀ x ∈ l, 0 ≤ x ∧ x ≤ 255) (h8 : k < 8) (hl : k < l.length) :
    bits BinOp.or IntKind.u64 (getL (l.take k)) (IntKind.u64.wrap (IntKind.u64.wrap l[k] * 2 ^ (8 * k))) = getL (l.take (k + 1)) := by
  have hx := hb l[k] (List.getElem_mem hl)
  have bd := getL_take_bd l (k + 1) hb (by omega)
  have hb' : ∀ x ∈ l.take k, 0 ≤ x ∧ x ≤ 255 := fun x hx => hb x (List.mem_of_mem_take hx)
  have h0 := getL_nonneg _ hb'
  have h1 := getL_lt _ hb'
  have hlen : (l.take k).length = k := by simp; omega
  have e : getL (l.take (k + 1)) = getL (l.take k) + l[k] * 2 ^ (8 * k) := by
    rw [List.take_succ_eq_append_getElem hl, getL_snoc, hlen, pow_bits]
  rw [hlen, pow_bits] at h1
  have hp : (0 : Int) ≤ 2 ^ (8 * k) := Int.le_of_lt (Int.pow_pos (by decide))
  have hm : 0 ≤ l[k] * 2 ^ (8 * k) := Int.mul_nonneg hx.1 hp
  rw [IntKind.wrap_u64 l[k], show l[k] % 18446744073709551616 = l[k] from by omega, IntKind.wrap_u64]
  rw [e] at bd ⊢
  rw [show (l[k] * 2 ^ (8 * k)) % 18446744073709551616 = l[k] * 2 ^ (8 * k) from by omega]
  exact or_join (8 * k) _ _ h0 h1 hx.1 bd.2
theorem putL_byte (k : Nat) : ∀ n, ∀ x ∈ putL k n, 0 ≤ x ∧ x ≤ 255 := by
  induction k with
  | zero => intro n x hx; simp [putL] at hx
  | succ k ih =>
    intro n x hx
    simp only [putL, List.mem_cons] at hx
    rcases hx with rfl | hx
    · omega
    · exact ih _ x hx

/-- All are bytes. -/
def AllB (l : List Int) : Prop := ∀ x ∈ l, 0 ≤ x ∧ x ≤ 255
theorem AllB.nil : AllB [] := fun x hx => by cases hx
theorem AllB.append {a b : List Int} (h : AllB a) (k : AllB b) : AllB (a ++ b) := by
  intro x hx
  rcases List.mem_append.1 hx with hx | hx
  · exact h x hx
  · exact k x hx
theorem AllB.take {a : List Int} (h : AllB a) (n : Nat) : AllB (a.take n) := fun x hx => h x (List.mem_of_mem_take hx)
theorem AllB.drop {a : List Int} (h : AllB a) (n : Nat) : AllB (a.drop n) := fun x hx => h x (List.mem_of_mem_drop hx)
/-- What lies there behind bytes laid over it. -/
def overR (l : List Int) (o : Nat) (b : List Int) : List Int := l.take o ++ b ++ l.drop (o + b.length)
/-- A slice of bytes: nothing is known of the address where there is none. -/
def IsB (w : World) (a : Option Addr) (l : List Int) : Prop :=
  (∀ x ∈ l, 0 ≤ x ∧ x ≤ 255) ∧ (l = [] ∨ ∃ b off, a = some ⟨b, off, none⟩ ∧ b < w.heap.size ∧ ∀ i, i < l.length → w.cell? ⟨b, off + i, none⟩ = some (.int .u8 (l.getD i 0)))
theorem IsB.keep {w w' : World} {a : Option Addr} {l : List Int} (h : IsB w a l) (hb : Below w.heap.size w w') : IsB w' a l := by
  obtain ⟨h1, h2 | ⟨b, off, e, hs, hc⟩⟩ := h
  · exact ⟨h1, .inl h2⟩
  · refine ⟨h1, .inr ⟨b, off, e, by have := hb.size; omega, fun i hi => ?_⟩⟩
    rw [hb.cell (p := ⟨b, off + i, none⟩) hs]; exact hc i hi
theorem IsB.nil (w : World) (a : Option Addr) : IsB w a [] := ⟨AllB.nil, .inl rfl⟩
theorem IsB.all {w : World} {a : Option Addr} {l : List Int} (h : IsB w a l) : AllB l := h.1
theorem IsB.drew {w : World} {a : Option Addr} {l : List Int} (h : IsB w a l) : IsB w.drew a l := h
/-- Bytes as cells. -/
def cellsB (l : List Int) : List Value := l.map (Value.int .u8)
theorem cellsB_len (l : List Int) : (cellsB l).length = l.length := by simp [cellsB]
theorem cellsB_one (l : List Int) : ∀ v ∈ cellsB l, v.oneCell' = true := by intro v hv; obtain ⟨x, _, rfl⟩ := List.mem_map.1 hv; rfl
theorem cellsB_at (l : List Int) (i : Nat) (h : i < l.length) : (cellsB l)[i]? = some (.int .u8 (l.getD i 0)) := by simp [cellsB, h, List.getD]
/-- Bytes that fill a block. -/
def RowB (w : World) (g : Nat) (l : List Int) : Prop := w.heap[g]? = some (.cells (cellsB l).toArray 5 (0, 0))
theorem RowB.lt {w : World} {g : Nat} {l : List Int} (h : RowB w g l) : g < w.heap.size := (Array.getElem?_eq_some_iff.1 h).1
theorem RowB.cell {w : World} {g : Nat} {l : List Int} (h : RowB w g l) (i : Nat) (hi : i < l.length) : w.cell? ⟨g, i, none⟩ = some (.int .u8 (l.getD i 0)) := by
  rw [cell_of_row w g i _ _ _ h]; simpa using cellsB_at l i hi
theorem RowB.isB {w : World} {g : Nat} {l : List Int} (h : RowB w g l) (hb : AllB l) : IsB w (some ⟨g, 0, none⟩) l :=
  ⟨hb, .inr ⟨g, 0, rfl, h.lt, fun i hi => by rw [Nat.zero_add]; exact h.cell i hi⟩⟩
/-- A part of a row. -/
theorem RowB.part {w : World} {g : Nat} {l : List Int} (h : RowB w g l) (hb : AllB l) (o k : Nat) (a : Option Addr) (hf : o + k ≤ l.length) (ha : k = 0 ∨ a = some ⟨g, o, none⟩) : IsB w a ((l.drop o).take k) := by
  refine ⟨(hb.drop o).take k, ?_⟩
  rcases ha with rfl | rfl
  · left; simp
  · refine .inr ⟨g, o, rfl, h.lt, fun i hi => ?_⟩
    simp at hi
    rw [h.cell (o + i) (by omega)]
    simp [List.getD_eq_getElem?_getD, List.getElem?_drop, show i < k by omega]
theorem RowB.keep {w w' : World} {g : Nat} {l : List Int} (h : RowB w g l) (hb : Below w.heap.size w w') : RowB w' g l := by
  show w'.heap[g]? = _; rw [hb.block g h.lt]; exact h
/-- Of the blocks that are there just g may be another; there may be new ones. -/
structure Tg (g : Nat) (w w' : World) : Prop where
  os : w'.os = w.os
  tape : w'.tape = w.tape
  output : w'.output = w.output
  size : w.heap.size ≤ w'.heap.size
  block : ∀ i, i < w.heap.size → i ≠ g → w'.heap[i]? = w.heap[i]?
theorem Tg.refl (g : Nat) (w : World) : Tg g w w := ⟨rfl, rfl, rfl, Nat.le_refl _, fun _ _ _ => rfl⟩
theorem Tg.trans {g : Nat} {a b c : World} (h : Tg g a b) (k : Tg g b c) : Tg g a c :=
  ⟨k.os.trans h.os, k.tape.trans h.tape, k.output.trans h.output, Nat.le_trans h.size k.size, fun i hi hn => (k.block i (Nat.lt_of_lt_of_le hi h.size) hn).trans (h.block i hi hn)⟩
theorem Tg.ofBelow {g : Nat} {w w' : World} (h : Below w.heap.size w w') : Tg g w w' := ⟨h.os, h.tape, h.output, h.size, fun i hi _ => h.block i hi⟩
theorem Tg.ofOnly {g : Nat} {w w' : World} (h : Only g w w') : Tg g w w' := ⟨h.os, h.tape, h.output, Nat.le_of_eq h.size.symm, fun i _ hn => h.block i hn⟩
theorem Tg.below {g B : Nat} {w w' : World} (h : Tg g w w') (hg : B ≤ g) (hB : B ≤ w.heap.size) : Below B w w' :=
  ⟨h.os, h.tape, h.output, h.size, fun i hi => h.block i (by omega) (by omega)⟩
theorem Tryz.info5 : (Tryz.prog.info? 5).map (fun i => (i.zero, i.size, i.bytes)) = some (some (.int .u8 0), 1, 1) := by kernel_rfl
theorem size1 : (Tryz.prog.info? 5).map (·.size) = some 1 := by kernel_rfl
/-! ### make -/
theorem made_B (n : Nat) : madeCells #[.int .u8 0] n = (cellsB (List.replicate n 0)).toArray := by
  apply Array.ext'
  simp [madeCells, cellsB]
  apply List.ext_getElem
  · simp
  · intro i h1 h2; simp [Nat.mod_one]
theorem make_B (w : World) (n : Nat) (hn : n ≤ 1000000000) : (Instr.makeSlice 39 (.int .i64 (n : Nat)) (.int .i64 (n : Nat))).run Tryz.prog w = .ok (.slice (some ⟨w.heap.size, 0, none⟩) n n) (w.alloc (.cells (cellsB (List.replicate n 0)).toArray 5)) := by
  obtain ⟨i0, hi0, hz0, hs0, hb0⟩ := info_parts Tryz.info5
  have h := run_make (P := Tryz.prog) w 39 5 i0 _ Tryz.underlying39 hi0 hz0 .i64 .i64 (n : Int) (n : Int) (by omega) (Int.le_refl _) (by rw [hb0]; omega) (by omega)
  rw [h, hs0]
  simp only [Int.toNat_natCast, Value.cells, Nat.mul_one, made_B]
/-! ### copy -/
theorem copy_run (w : World) (g o dl dc : Nat) (cur l : List Int) (ad a : Option Addr) (n cap k : Nat) (hn : n = l.length) (hk : k = min n dl) (hg : RowB w g cur) (hB : IsB w a l) (hfit : o + k ≤ cur.length) (had : k = 0 ∨ ad = some ⟨g, o, none⟩) :
    ∃ w1, (∀ ty, (Builtin.copy_ #[39, 39] ty #[.slice ad dl dc, .slice a n cap]).run Tryz.prog w = .ok (goInt k) w1) ∧ RowB w1 g (cur.take o ++ l.take k ++ cur.drop (o + k)) ∧ Only g w w1 := by
  subst hn
  by_cases h0 : k = 0
  · have hrun := fun ty => run_copy_none (P := Tryz.prog) w 39 39 ty 5 ad a dl dc l.length cap Tryz.underlying39 size1 (hk.symm.trans h0)
    subst h0
    exact ⟨w, hrun, by simpa using hg, Only.refl _ _⟩
  · obtain rfl : ad = some ⟨g, o, none⟩ := by rcases had with h | h; exact absurd h h0; exact h
    obtain ⟨_, rfl | ⟨b, off, rfl, hs, hc⟩⟩ := hB
    · simp at hk; omega
    · have hl : (cellsB (l.take k)).length = k := by rw [cellsB_len, List.length_take]; omega
      have hrun := fun ty => run_copy_row (P := Tryz.prog) w 39 39 ty 5 g o dl dc ⟨b, off, none⟩ l.length cap (cellsB cur).toArray 5 (cellsB (l.take k)) Tryz.underlying39 size1 hg (hl.trans hk) (by
        intro j v hv
        have hj : j < k := by rw [← hl]; exact (List.getElem?_eq_some_iff.1 hv).1
        rw [addr_add, hc j (by omega), ← hv, cellsB_at _ j (by rw [List.length_take]; omega)]
        rw [List.getD_eq_getElem?_getD, List.getD_eq_getElem?_getD, List.getElem?_take, if_pos hj]) (by rw [hl]; simpa [cellsB_len] using hfit) (cellsB_one _)
      refine ⟨_, fun ty => by rw [hrun ty, hl], ?_, Only.setRow _ _ _⟩
      have := setRow_heap w g _ ((cellsB cur).take o ++ cellsB (l.take k) ++ (cellsB cur).drop (o + k)).toArray 5 _ hg
      show (w.setRow g _).heap[g]? = _
      rw [show (cellsB cur).toArray.toList = cellsB cur from rfl, this]
      simp [cellsB]
theorem wpList_copyB {ops : Array Oper} {rest : List Oper} {o : Oper} {a : Act} {Q : Exit → Act → World → Prop} {w : World} (hgd : o.guard = none) (s x : Operand)
    (ho : o.op = .call { callee := .builtin .copy, args := #[s, x], argTypes := #[39, 39] })
    (g off dl dc : Nat) (cur l : List Int) (ad ax : Option Addr) (n cap k : Nat) (hs : a.eval s = .slice ad dl dc) (hx : a.eval x = .slice ax n cap) (hn : n = l.length) (hk : k = min n dl) (hg : RowB w g cur) (hB : IsB w ax l) (hfit : off + k ≤ cur.length) (had : k = 0 ∨ ad = some ⟨g, off, none⟩)
    (h : ∀ w1, RowB w1 g (cur.take off ++ l.take k ++ cur.drop (off + k)) → Only g w w1 → wpList Tryz.prog ops Q rest (a.put o.dst (goInt k)) w1) : wpList Tryz.prog ops Q (o :: rest) a w := by
  refine wpList_plain hgd fun K' hK' => ?_
  obtain ⟨w1, hrun, r1, r2⟩ := copy_run w g off dl dc cur l ad ax n cap k hn hk hg hB hfit had
  unfold Oper.wp
  simp [execOp, ho, resolve, invoke, builtin, hs, hx, hrun, Result.andThen]
  exact hK' _ _ (h w1 r1 r2)
/-- There is nothing to copy into. -/
theorem wpList_copy0 {ops : Array Oper} {rest : List Oper} {o : Oper} {a : Act} {Q : Exit → Act → World → Prop} {w : World} (hgd : o.guard = none) (s x : Operand)
    (ho : o.op = .call { callee := .builtin .copy, args := #[s, x], argTypes := #[39, 39] })
    (dl dc n cap : Nat) (ad ax : Option Addr) (hs : a.eval s = .slice ad dl dc) (hx : a.eval x = .slice ax n cap) (hk : Nat.min n dl = 0)
    (h : wpList Tryz.prog ops Q rest (a.put o.dst (goInt 0)) w) : wpList Tryz.prog ops Q (o :: rest) a w := by
  refine wpList_plain hgd fun K' hK' => ?_
  have hrun := run_copy_none (P := Tryz.prog) w 39 39 o.type 5 ad ax dl dc n cap Tryz.underlying39 size1 hk
  unfold Oper.wp
  simp [execOp, ho, resolve, invoke, builtin, hs, hx, hrun, Result.andThen]
  exact hK' _ _ h
theorem zeroCells_B (n : Nat) : (Builtin.zeroCells #[.int .u8 0] n).toList = cellsB (List.replicate n 0) := by
  simp only [Builtin.zeroCells]
  apply List.ext_getElem
  · simp [cellsB]
  · intro i h1 h2
    simp [cellsB, Nat.mod_one]
theorem clear_run (w : World) (g o n c : Nat) (ad : Option Addr) (cur : List Int) (hg : RowB w g cur) (hfit : o + n ≤ cur.length) (had : n = 0 ∨ ad = some ⟨g, o, none⟩) :
    ∃ w1, (∀ ty, (Builtin.clear_ #[39] ty #[.slice ad n c]).run Tryz.prog w = .ok (.tuple #[]) w1) ∧ RowB w1 g (overR cur o (List.replicate n 0)) ∧ Only g w w1 := by
  rcases n with _ | m
  · refine ⟨w, fun ty => ?_, by simpa [overR] using hg, Only.refl _ _⟩
    cases ad <;> simp [Builtin.clear_, run_underlying Tryz.underlying39]
  · obtain rfl : ad = some ⟨g, o, none⟩ := by rcases had with h | h; exact absurd h (by omega); exact h
    have hst := run_storeCells_at Tryz.prog g o 5 (cellsB (List.replicate (m + 1) 0)) 0 (cellsB cur).toArray w hg (by simp [cellsB_len]; omega) (cellsB_one _)
    have e : (cellsB (List.replicate (m + 1) 0)).length = m + 1 := by rw [cellsB_len]; simp
    rw [show (cellsB cur).toArray.toList = cellsB cur from rfl, e] at hst
    simp only [Nat.add_zero] at hst
    have e2 : (cellsB cur).take o ++ cellsB (List.replicate (m + 1) 0) ++ (cellsB cur).drop (o + (m + 1)) = cellsB (overR cur o (List.replicate (m + 1) 0)) := by simp [cellsB, overR]
    rw [e2] at hst
    refine ⟨_, fun ty => ?_, ?_, Only.setRow _ (cellsB (overR cur o (List.replicate (m + 1) 0))).toArray _⟩
    · have hz := zeroCells_B (m + 1)
      simp only [Builtin.clear_, Value.cells]
      simp [run_underlying Tryz.underlying39, hz, hst]
    · show (w.setRow g _).heap[g]? = _
      rw [setRow_heap w g _ _ 5 _ hg]
theorem wpList_clearB {ops : Array Oper} {rest : List Oper} {o : Oper} {a : Act} {Q : Exit → Act → World → Prop} {w : World} (hgd : o.guard = none) (s : Operand)
    (ho : o.op = .call { callee := .builtin .clear, args := #[s], argTypes := #[39] })
    (g off n c : Nat) (ad : Option Addr) (cur : List Int) (hs : a.eval s = .slice ad n c) (hg : RowB w g cur) (hfit : off + n ≤ cur.length) (had : n = 0 ∨ ad = some ⟨g, off, none⟩)
    (h : ∀ w1, RowB w1 g (overR cur off (List.replicate n 0)) → Only g w w1 → wpList Tryz.prog ops Q rest (a.put o.dst (.tuple #[])) w1) : wpList Tryz.prog ops Q (o :: rest) a w := by
  refine wpList_plain hgd fun K' hK' => ?_
  obtain ⟨w1, hrun, r1, r2⟩ := clear_run w g off n c ad cur hg hfit had
  unfold Oper.wp
  simp [execOp, ho, resolve, invoke, builtin, hs, hrun, Result.andThen]
  exact hK' _ _ (h w1 r1 r2)
theorem get_any (a : Option Addr) (cap : Nat) (l : List Int) (w : World) (h : IsB w a l) (hm : l.length ≤ maxLen) :
    Calls Tryz.prog 160 #[.slice a l.length cap] w fun e w' => e = .returned (.int .u64 (getL (l.take 8))) ∧ w = w' := by
  obtain ⟨hb, rfl | ⟨b, off, rfl, hsz, hc⟩⟩ := h
  · go_enter Tryz.func160, Tryz.ntmps160
    go_wp2
    refine wp_loop_rounds 1 ?_
    rw [rounds_succ]
    go_wp2
    go_ret
    exact ⟨rfl, rfl⟩
  · unfold maxLen at hm
    go_enter Tryz.func160, Tryz.ntmps160
    go_wp2
    all_goals
      go_loop [3, 8] (fun n i => ∃ k : Nat, k ≤ 8 ∧ k ≤ l.length ∧ i = .int .i64 k ∧ n = .int .u64 (getL (l.take k))) (fun _ i => 8 - (intOf i).toNat)
      case atStart => exact ⟨0, Nat.zero_le _, Nat.zero_le _, rfl, rfl⟩
      case round =>
        obtain ⟨k, hk8, hkl, rfl, rfl⟩ := hrel
        by_cases hlt : k < 8 ∧ k < l.length
        · obtain ⟨h8, hl⟩ := hlt
          have hcell := hc k hl
          have HG : Hid (bits BinOp.or IntKind.u64 (getL (l.take k)) (IntKind.u64.wrap (IntKind.u64.wrap l[k] * 2 ^ (8 * k))) = getL (l.take (k + 1))) := get_step l k hb h8 hl
          go_wp2
          go_round
          case rel => exact ⟨k + 1, by omega, by omega, by go_num, by rw [HG.out]⟩
          case measure => simp [intOf]; omega
        · have e8 : l.take 8 = l.take k := take_same l k hk8 hkl hlt
          have E8 : Hid (l.take 8 = l.take k) := e8
          clear e8
          go_wp2
          go_ret
          exact ⟨ret_int (by rw [E8.out]), rfl⟩
/-- Get, its length and what it answers told apart. -/
theorem get_of (a : Option Addr) (cap n : Nat) (l : List Int) (v : Int) (w : World) (hn : n = l.length) (hv : getL (l.take 8) = v) (h : IsB w a l) (hm : l.length ≤ maxLen) :
    Calls Tryz.prog 160 #[.slice a n cap] w fun e w' => e = .returned (.int .u64 v) ∧ w = w' := by
  subst hn hv; exact get_any a cap l w h hm
/-- Bytes as a string. -/
def bs (l : List Int) : ByteArray := ⟨(l.map (fun x => UInt8.ofNat x.toNat)).toArray⟩
theorem conv_run (w : World) (a : Option Addr) (cap : Nat) (l : List Int) (h : IsB w a l) :
    (convert 39 9 (.slice a l.length cap)).run Tryz.prog w = .ok (.string (bs l)) w := by
  obtain ⟨hb, hl⟩ := h
  rcases a with _ | ad
  · rcases hl with rfl | ⟨b, off, e, _⟩
    · rw [run_convert_bytes_string w 39 9 5 none _ cap Tryz.underlying39 Tryz.underlying5 Tryz.underlying9]
      simp [Conv.bytesToString]
      rfl
    · cases e
  · have := run_convert_bytes_back (P := Tryz.prog) w 39 9 5 ad cap (l.map (fun x => UInt8.ofNat x.toNat)) Tryz.underlying39 Tryz.underlying5 Tryz.underlying9 (by
      intro j hj
      have hj' : j < l.length := by simpa using hj
      have hx := hb l[j] (List.getElem_mem hj')
      rcases hl with rfl | ⟨b, off, e, _, hc⟩
      · simp at hj'
      · cases e
        rw [addr_add, hc j hj']
        have e1 : (l[j].toNat % 256 : Nat) = l[j].toNat := by omega
        simp [List.getD, hj', e1, Int.toNat_of_nonneg hx.1])
    rw [List.length_map] at this
    exact this

/-- What is owned, its value written out. -/
def OwnsB (w : World) (base : Nat) (a : Option Addr) (l : List Int) (cap : Nat) : Prop := w.ownsRow base 5 1 (.slice a l.length cap) l.length (l.map (Value.int .u8))
theorem ownsB_made (w : World) : OwnsB (w.alloc (.cells #[] 5)) w.heap.size (some ⟨w.heap.size, 0, none⟩) [] 0 :=
  World.ownsRow_made w #[] 0 (Nat.le_refl _) (Nat.zero_le _) rfl
theorem copy_none (cap : Nat) (w : World) :
    Calls Tryz.prog 83 #[.slice none 0 cap] w fun e w' => e = .returned (.slice (some ⟨w.heap.size, 0, none⟩) 0 0) ∧ w' = w.alloc (.cells #[] 5) := by
  go_enter Tryz.func83, Tryz.ntmps83
  go_wp2
  go_ret
  exact ⟨rfl, rfl⟩
set_option maxHeartbeats 2000000 in
theorem copy_at (a : Addr) (n c : Nat) (xs : List Int) (w : World) (hx : xs.length = n) (hbig : n ≤ 140737488355328) (hc : ∀ i, i < n → w.cell? (a.add i) = some (.int .u8 (xs.getD i 0))) :
    Calls Tryz.prog 83 #[.slice (some a) n c] w fun e w' => ∃ v', e = .returned v' ∧ w'.ownsRow w.heap.size 5 1 v' n (xs.map (Value.int .u8)) ∧ v' ≠ .slice none 0 0 ∧ Below w.heap.size w w' := by
  obtain ⟨i0, hi, hz0, hz1, hz2⟩ := info_parts Tryz.info5
  have A : Hid (∀ i, i < n → w.cell? (a.add i) = some (.int .u8 (xs.getD i 0))) := hc
  clear hc
  go_enter Tryz.func83, Tryz.ntmps83
  go_wp2_with (at_builtin; refine wpList_append_own _ rfl _ _ 39 rfl w.heap.size 5 i0 (.int .u8 0) 1 1 Tryz.underlying39 hi hz0 hz1 hz2 rfl (by decide) _ _ _ rfl (World.ownsRow_made w #[] 0 (Nat.le_refl _) (Nat.zero_le _) rfl) a n c (xs.map (Value.int .u8)) rfl ?qc1 ?qc2 ?qc3 ?qc4 ?qc5 ?qc6 ?_)
  case qc1 => simp; omega
  case qc2 =>
    intro j u hj
    have hjn : j < n := by
      have := (List.getElem?_eq_some_iff.1 hj).1
      simp at this
      omega
    refine Lib.cell?_alloc_some _ ?_
    rw [A.out j hjn]
    have e : (xs.map (Value.int .u8))[j]? = some (Value.int .u8 (xs.getD j 0)) := by simp [List.getD, List.getElem?_eq_getElem (show j < xs.length by omega)]
    rw [e] at hj
    exact hj
  case qc3 => intro u hu; obtain ⟨x, _, rfl⟩ := List.mem_map.1 hu; rfl
  case qc4 => unfold maxLen; omega
  case qc5 => omega
  case qc6 => simp
  intro v' w1 hown hgrow hnil
  go_wp2
  go_ret
  refine ⟨v', rfl, by simpa using hown, ?_, ?_⟩
  · first | exact hnil | (intro e; exact absurd (hnil.1 e).1 (by simp))
  · exact ((Below.refl _ w).alloc (Nat.le_refl _) _).grown hgrow (by simp) (by intro k hk; simp [Value.ownBlock] at hk; omega)
/-- A copy lies in a block of its own, of nothing too. -/
theorem copy_any (a : Option Addr) (cap n : Nat) (l : List Int) (w : World) (hn : n = l.length) (h : IsB w a l) (hm : l.length ≤ 140737488355328) :
    Calls Tryz.prog 83 #[.slice a n cap] w fun e w' => ∃ g cap', e = .returned (.slice (some ⟨g, 0, none⟩) l.length cap') ∧ OwnsB w' w.heap.size (some ⟨g, 0, none⟩) l cap' ∧ Below w.heap.size w w' := by
  subst hn
  rcases a with _ | ad
  · obtain ⟨_, rfl | ⟨b, off, e, _⟩⟩ := h
    · refine (copy_none cap w).mono ?_
      rintro e w' ⟨rfl, rfl⟩
      exact ⟨w.heap.size, 0, rfl, ownsB_made w, (Below.refl _ _).alloc (Nat.le_refl _) _⟩
    · cases e
  · have hc : ∀ i, i < l.length → w.cell? (ad.add i) = some (.int .u8 (l.getD i 0)) := by
      intro i hi
      obtain ⟨_, rfl | ⟨b, off, e, _, hc⟩⟩ := h
      · simp at hi
      · cases e
        rw [addr_add]; exact hc i hi
    refine (copy_at ad l.length cap l w rfl hm hc).mono ?_
    rintro e w' ⟨v, rfl, hown, hv, hbel⟩
    have ho := hown
    obtain ⟨_, ⟨h1, _⟩ | ⟨g, c', cur, rfl, _⟩⟩ := hown
    · exact absurd h1 hv
    · exact ⟨g, c', rfl, ho, hbel⟩
theorem bs_inj {l l' : List Int} (h : AllB l) (h' : AllB l') (e : bs l = bs l') : l = l' := by
  unfold bs at e
  simp only [ByteArray.mk.injEq] at e
  have e' := congrArg Array.toList e
  simp only at e'
  have key : ∀ (a b : List Int), AllB a → AllB b → a.map (fun x => UInt8.ofNat x.toNat) = b.map (fun x => UInt8.ofNat x.toNat) → a = b := by
    intro a
    induction a with
    | nil => intro b _ _ hab; cases b with
      | nil => rfl
      | cons y b => simp at hab
    | cons x a ih => intro b ha hb hab; cases b with
      | nil => simp at hab
      | cons y b =>
        simp only [List.map_cons, List.cons.injEq] at hab
        obtain ⟨h1, h2⟩ := hab
        have hx := ha x (by simp)
        have hy := hb y (by simp)
        have h3 := congrArg UInt8.toNat h1
        simp only [UInt8.toNat_ofNat'] at h3
        rw [ih b (fun z hz => ha z (by simp [hz])) (fun z hz => hb z (by simp [hz])) h2, show x = y from by omega]
  exact key l l' h h' e'
theorem ba_loop (s : ByteArray) (n : Nat) : ∀ (i : Nat) (r : List UInt8), s.size - i = n → ByteArray.toList.loop s i r = r.reverse ++ s.data.toList.drop i := by
  induction n with
  | zero =>
    intro i r h
    unfold ByteArray.toList.loop
    rw [if_neg (by omega), List.drop_eq_nil_of_le (by have : s.data.toList.length = s.size := Array.length_toList
                                                      omega)]
    simp
  | succ n ih =>
    intro i r h
    have hl : s.data.toList.length = s.size := Array.length_toList
    have hi : i < s.data.toList.length := by omega
    unfold ByteArray.toList.loop
    rw [if_pos (by omega), ih _ _ (by omega), List.drop_eq_getElem_cons hi]
    have hg : s.get! i = s.data.toList[i] := by
      have : i < s.data.size := by rw [← Array.length_toList]; exact hi
      show s.data[i]! = _
      rw [getElem!_pos s.data i this, Array.getElem_toList]
    simp [hg]
theorem ba_inj {s t : ByteArray} (h : s.toList = t.toList) : s = t := by
  unfold ByteArray.toList at h
  rw [ba_loop s _ 0 [] rfl, ba_loop t _ 0 [] rfl] at h
  simp only [List.reverse_nil, List.nil_append, List.drop_zero] at h
  cases s; cases t
  simp only [ByteArray.mk.injEq]
  exact Array.toList_inj.1 h
theorem same_any (a a' : Option Addr) (n n' cap cap' : Nat) (l l' : List Int) (w : World) (h : IsB w a l) (h' : IsB w a' l') (hn : n = l.length) (hn' : n' = l'.length) :
    Calls Tryz.prog 88 #[.slice a n cap, .slice a' n' cap'] w fun e w' => e = .returned (.bool (decide (l = l'))) ∧ w = w' := by
  subst hn hn'
  have k1 := conv_run w a cap l h
  have k2 := conv_run w a' cap' l' h'
  have hb1 : AllB l := h.1
  have hb2 : AllB l' := h'.1
  clear h h'
  by_cases e : l = l'
  · subst e
    clear hb1 hb2
    go_enter Tryz.func88, Tryz.ntmps88
    go_wp2
    go_ret
    exact ⟨by simp, rfl⟩
  · have hne : bs l ≠ bs l' := fun h => e (bs_inj hb1 hb2 h)
    clear hb1 hb2
    go_enter Tryz.func88, Tryz.ntmps88
    go_wp2
    all_goals (go_ret; exact ⟨by simp [e]; exact fun h => hne (ba_inj h), rfl⟩)
/-- A base that may be. -/
def goodR (x : Int) : Prop := 256 ≤ x ∧ x ≤ 1099511627776 ∧ x % 256 = 0
instance (x : Int) : Decidable (goodR x) := by unfold goodR; infer_instance
theorem good_any (x : Int) (w : World) : Calls Tryz.prog 80 #[.int .i64 x] w fun e w' => e = .returned (.bool (decide (goodR x))) ∧ w = w' := by
  by_cases a1 : x < 256
  · rw [decide_eq_false (p := goodR x) (by unfold goodR; omega)]
    go_enter Tryz.func80, Tryz.ntmps80
    go_wp2
    go_ret
    exact ⟨rfl, rfl⟩
  · by_cases a2 : 1099511627776 < x
    · rw [decide_eq_false (p := goodR x) (by unfold goodR; omega)]
      go_enter Tryz.func80, Tryz.ntmps80
      go_wp2
      go_ret
      exact ⟨rfl, rfl⟩
    · have n0 : 0 ≤ x := by omega
      have n2 : x ≤ 1099511627776 := by omega
      by_cases a3 : x % 256 = 0
      · rw [decide_eq_true (p := goodR x) (by unfold goodR; omega)]
        go_enter Tryz.func80, Tryz.ntmps80
        go_wp2
        go_ret
        exact ⟨rfl, rfl⟩
      · rw [decide_eq_false (p := goodR x) (by unfold goodR; omega)]
        go_enter Tryz.func80, Tryz.ntmps80
        go_wp2
        go_ret
        exact ⟨ret_bool (beq_eq_false_iff_ne.2 a3), rfl⟩
theorem good_of (x : Int) (v : Bool) (w : World) (hv : decide (goodR x) = v) : Calls Tryz.prog 80 #[.int .i64 x] w fun e w' => e = .returned (.bool v) ∧ w = w' := by
  subst hv; exact good_any x w
theorem rgood_any (x : Int) (w : World) : Calls Tryz.prog 100 #[.int .i64 x] w fun e w' => e = .returned (.bool (decide (goodR x))) ∧ w = w' := by
  by_cases a1 : x < 256
  · rw [decide_eq_false (p := goodR x) (by unfold goodR; omega)]
    go_enter Tryz.func100, Tryz.ntmps100
    go_wp2
    go_ret
    exact ⟨rfl, rfl⟩
  · by_cases a2 : 1099511627776 < x
    · rw [decide_eq_false (p := goodR x) (by unfold goodR; omega)]
      go_enter Tryz.func100, Tryz.ntmps100
      go_wp2
      go_ret
      exact ⟨rfl, rfl⟩
    · have n0 : 0 ≤ x := by omega
      have n2 : x ≤ 1099511627776 := by omega
      by_cases a3 : x % 256 = 0
      · rw [decide_eq_true (p := goodR x) (by unfold goodR; omega)]
        go_enter Tryz.func100, Tryz.ntmps100
        go_wp2
        go_ret
        exact ⟨rfl, rfl⟩
      · rw [decide_eq_false (p := goodR x) (by unfold goodR; omega)]
        go_enter Tryz.func100, Tryz.ntmps100
        go_wp2
        go_ret
        exact ⟨ret_bool (beq_eq_false_iff_ne.2 a3), rfl⟩
theorem rgood_of (x : Int) (v : Bool) (w : World) (hv : decide (goodR x) = v) : Calls Tryz.prog 100 #[.int .i64 x] w fun e w' => e = .returned (.bool v) ∧ w = w' := by
  subst hv; exact rgood_any x w
end Go.Proofs.YtgdjlopnhecmjaaGreatDoor

/- Maps of layer 14: rows by places (numbers), spans by pages (pointers). -/
namespace Go.Proofs.YtgdjlopnhecmjaaGreatDoor
open Go.RowKit Go.Maps
set_option linter.unusedVariables false
set_option maxRecDepth 4000

theorem law : Keyed Tryz.prog 3 := Maps.int_keyed Tryz.underlying3
theorem keyI {i : Int} (h : -9223372036854775808 ≤ i ∧ i ≤ 9223372036854775807) : keyOf Tryz.prog 3 (.int .i64 i) = some (.int .i64 i) := Maps.keyOf_int_mk Tryz.underlying3 (WalkArith.wf_i64 (by omega))
theorem keyL {i : Int} (h : -9223372036854775808 ≤ i ∧ i ≤ 9223372036854775807) : WideAt.IsKeyLit (.int .i64 i) := law.key (keyI h)
theorem owns_block {H : Type} {P : Program} {k : TypeId} {R : Value → Option (DataW H × List MemPlace)} {w : World} {b n : Nat} {D : DataW H} (h : w.ownsMap P k R b n D) : ∃ es c, w.heap[b]? = some (.map es c) := by
  obtain ⟨es, c, hb, _⟩ := h; exact ⟨es, c, hb⟩
theorem owns_same {H : Type} {P : Program} {k : TypeId} {R : Value → Option (DataW H × List MemPlace)} {w w' : World} {b n : Nat} {D : DataW H} (h : w.ownsMap P k R b n D) (he : ∀ o, w.heap[b]? = some o → w'.heap[b]? = some o) : w'.ownsMap P k R b n D := by
  obtain ⟨es, c, hb, r⟩ := h; exact ⟨es, c, he _ hb, r⟩
theorem turned_else {w w' : World} {b : Nat} (h : w.mapTurned w' b) : w'.heap.size = w.heap.size ∧ ∀ i, i ≠ b → w'.heap[i]? = w.heap[i]? := by
  obtain ⟨es, c, es', c', h1, rfl⟩ := h
  exact ⟨by simp [ChangeMaps.setBlock], fun i hi => ChangeMaps.heap_setBlock_other h1 _ hi⟩
theorem turned_only {w w' : World} {b : Nat} (h : w.mapTurned w' b) : Only b w w' := by
  have h2 := turned_else h
  have h1 := h.grown
  exact ⟨h1.os, h1.tape, h1.output, h2.1, h2.2⟩
end Go.Proofs.YtgdjlopnhecmjaaGreatDoor
