/- What settle does: laws of its operations. -/
import Derived.Test.YtgmmgklcndnehaaDoorDkG
import Derived.Lib.SlBytesConst
import Derived.Deep.Slices
import Derived.Deep.Strs
import Derived.Lib.SmallJoins
namespace Go.Proofs.YtgmmgklcndnehaaDoor
open Go.RowKit Go.Maps
set_option linter.unusedVariables false
set_option maxRecDepth 4000

/-- A write in a block of its own. -/
def RowX (w : World) (g : Nat) (x : Wr) : Prop := w.heap[g]? = some (.cells (cellsX x).toArray 110 (0, 0))
theorem RowX.isB {w : World} {g : Nat} {x : Wr} (h : RowX w g x) (hb : AllB x.by) : IsB w (some ⟨g, 1, none⟩) x.by :=
  ⟨hb, .inr ⟨g, 1, rfl, (Array.getElem?_eq_some_iff.1 h).1, fun i hi => by
    rw [cell_of_row w g (1 + i) _ _ _ h, Nat.add_comm 1 i]
    simpa [cellsX] using cellsB_at x.by i hi⟩⟩

/-- copy, in a region that draws. -/
theorem step_copyB {ops : Array Oper} {o : Oper} {a : Act} {K : Act → World → Prop} {Q : Exit → Act → World → Prop} {E : Prop} {w : World} (hgd : o.guard = none) (s x : Operand)
    (ho : o.op = .call { callee := .builtin .copy, args := #[s, x], argTypes := #[22, 22] })
    (g off dl dc : Nat) (t : TypeId) (cur l : List Int) (ax : Option Addr) (n cap k : Nat) (hs : a.eval s = .slice (some ⟨g, off, none⟩) dl dc) (hx : a.eval x = .slice ax n cap) (hn : n = l.length) (hk : k = min n dl) (hg : RowB w g t cur) (hB : IsB w ax l) (hfit : off + k ≤ cur.length)
    (h : ∀ w1, RowB w1 g t (cur.take off ++ l.take k ++ cur.drop (off + k)) → Only g w w1 → K (a.put o.dst (goInt k)) w1) :
    if Region.wanted o (yielded ops a.tmps) = true then Oper.wp Tryd.prog o a w K Q else E := by
  have hw : Region.wanted o (yielded ops a.tmps) = true := by simp [Region.wanted, hgd]
  rw [if_pos hw]
  obtain ⟨w1, hrun, r1, r2⟩ := copy_run w o.type g off dl dc t cur l ax n cap k hn hk hg hB hfit
  unfold Oper.wp
  simp [execOp, ho, resolve, invoke, builtin, hs, hx, hrun, Result.andThen]
  exact h w1 r1 r2

/-- Under way: so many writes have been laid over what is sure. -/
structure Settling (w wr : World) (base b bs bn : Nat) (ap : Option Addr) (cp ns : Nat) (keep : Nat → Nat) (d : Dk) (k : Nat) (f : Int → Option (List Int)) : Prop where
  box : wr.heap[b]? = some (.cells (boxC bs bn ap cp d) 83 (0, 0))
  sure : MapS wr bs (ns + k) f
  row : RowW wr base ap d.pend cp
  fit : ∀ i : Nat, i < d.n → (f i).getD zeros = layAll keep 0 (d.pend.take k) d.sure i
  keys : ∀ i l, f i = some l → ∃ k : Nat, i = k ∧ k < d.n
  turn : Turn base KC w wr

def updF (f : Int → Option (List Int)) (i : Int) (l : List Int) : Int → Option (List Int) := fun j => if j = i then some l else f j

theorem Settling.next {w wr w4 w5 : World} {base b bs bn cp ns k : Nat} {ap : Option Addr} {keep : Nat → Nat} {d : Dk} {f : Int → Option (List Int)} (h : Settling w wr base b bs bn ap cp ns keep d k f) (hk : k < d.pend.length) (hat : d.pend[k].at < d.n)
    (hb : Below wr.heap.size wr w4) (hS : MapS w5 bs (ns + k + 1) (updF f d.pend[k].at (over (keep k) d.pend[k].by (layAll keep 0 (d.pend.take k) d.sure d.pend[k].at)))) (ht : w4.mapTurned w5 bs) (hge : base ≤ bs) :
    Settling w w5 base b bs bn ap cp ns keep d (k + 1) (updF f d.pend[k].at (over (keep k) d.pend[k].by (layAll keep 0 (d.pend.take k) d.sure d.pend[k].at))) := by
  have hel := turned_else ht
  obtain ⟨es, c, hq⟩ := h.sure.block
  have hq4 : w4.heap[bs]? = some (.map es c) := same_below hb _ _ hq rfl
  have hne : ∀ (i : Nat) (o : Obj), w4.heap[i]? = some o → (∀ es c, o ≠ .map es c) → w5.heap[i]? = some o := fun i o ho hn => by
    rw [hel.2 i (fun e => by subst e; rw [hq4] at ho; cases ho; exact hn _ _ rfl)]; exact ho
  refine ⟨?_, hS, ?_, fun i hi => ?_, fun i l hl => ?_, (h.turn.trans (Turn.ofBelow hb)).trans (turned_turn ht hge)⟩
  · exact hne b _ (same_below hb _ _ h.box rfl) (fun _ _ e => by cases e)
  · obtain ⟨h0, h1 | ⟨q, c', cur, h1, hg1, e2, e3⟩⟩ := RowW.same h.row (same_below hb)
    · exact ⟨h0, .inl h1⟩
    · exact ⟨h0, .inr ⟨q, c', cur, h1, hg1, hne q _ e2 (fun _ _ e => by cases e), e3⟩⟩
  · rw [layAll_step keep d.pend k hk]
    unfold updF updS
    by_cases e : i = d.pend[k].at
    · simp [e]
    · have e' : ¬ (i : Int) = (d.pend[k].at : Int) := by omega
      simp only [e, e', if_false]
      exact h.fit i hi
  · unfold updF at hl
    by_cases e : i = (d.pend[k].at : Int)
    · exact ⟨_, e, hat⟩
    · simp only [e, if_false] at hl
      exact h.keys i l hl

/-- The end: nothing is pending. -/
theorem Settling.done {w wr w' : World} {base b bs bn cp ns m q : Nat} {ap : Option Addr} {keep : Nat → Nat} {d : Dk} {f : Int → Option (List Int)} (h : Settling w wr base b bs bn ap cp ns keep d d.pend.length f) (hok : DkOk d) (hge : base ≤ b ∧ base ≤ bs) (hq : base ≤ q) (hm : ns + d.pend.length ≤ m)
    (hI : MapI w' q 0 (fun _ => none)) (hne : bs ≠ q) (hb : w'.heap[b]? = some (.cells (boxC bs q none 0 (settleD keep d)) 83 (0, 0))) (hs : ∀ o, wr.heap[bs]? = some o → w'.heap[bs]? = some o) : IsD w' base b m (settleD keep d) := by
  refine ⟨bs, q, none, 0, ns + d.pend.length, 0, f, fun _ => none, ⟨hb, h.sure.same (fun o ho _ => hs o ho), hI, rowW_nil _ _, hne, ⟨hge.1, hge.2, hq⟩, fun i hi => ?_, h.keys, newest_none⟩, by simpa [settleD] using hm, Nat.zero_le _, settleD_ok hok⟩
  have := h.fit i hi
  rw [List.take_length] at this
  exact this
end Go.Proofs.YtgmmgklcndnehaaDoor

/- What settle does. -/
namespace Go.Proofs.YtgmmgklcndnehaaDoor
open Go.RowKit Go.Maps
set_option linter.unusedVariables false
set_option maxRecDepth 4000

def intOf : Value → Int
  | .int _ n => n
  | _ => 0

/-! The operations of 's := d.sure[w.at]', whose order the model draws. -/
end Go.Proofs.YtgmmgklcndnehaaDoor

/- What Flush and Crash answer. -/
namespace Go.Proofs.YtgmmgklcndnehaaDoor
open Go.RowKit Go.Maps
set_option linter.unusedVariables false
set_option maxRecDepth 4000

/-- A slice of numbers. -/
def IsI (w : World) (a : Option Addr) (l : List Int) : Prop :=
  (∀ x ∈ l, -9223372036854775808 ≤ x ∧ x ≤ 9223372036854775807) ∧ (l = [] ∨ ∃ b off, a = some ⟨b, off, none⟩ ∧ b < w.heap.size ∧ ∀ i, i < l.length → w.cell? ⟨b, off + i, none⟩ = some (.int .i64 (l.getD i 0)))
theorem IsI.keep {w w' : World} {a : Option Addr} {l : List Int} (h : IsI w a l) (hb : Below w.heap.size w w') : IsI w' a l := by
  obtain ⟨h1, h2 | ⟨b, off, e, hs, hc⟩⟩ := h
  · exact ⟨h1, .inl h2⟩
  · refine ⟨h1, .inr ⟨b, off, e, by have := hb.size; omega, fun i hi => ?_⟩⟩
    rw [hb.cell (p := ⟨b, off + i, none⟩) hs]; exact hc i hi

end Go.Proofs.YtgmmgklcndnehaaDoor

/- The document's example of layer 5 comes out: alive answers true, and turns nothing that was there. -/
namespace Go.Proofs.YtgmmgklcndnehaaDoor
open Go.RowKit Go.Maps
set_option linter.unusedVariables false
set_option maxRecDepth 4000

end Go.Proofs.YtgmmgklcndnehaaDoor

/- What the laws of layer 5 share: how arguments that came in are opened. -/
namespace Go.Proofs.YtgmmgklcndnehaaDoor
open Go.ChangeShapes Go.WideShapes Go.ChangeAt Go.RowKit
set_option linter.unusedVariables false
set_option maxRecDepth 4000

theorem own : ownKnob Tryd.prog.godebug = none := by kernel_rfl
theorem laidOut : laidOutB Tryd.prog = true := by kernel_rfl

theorem byte_of_wf {x : Int} (h : (Lit.int .u8 x).wf = true) : 0 ≤ x ∧ x ≤ 255 := by
  simp [Lit.wf, IntKind.min, IntKind.max, IntKind.signed, IntKind.bits] at h
  exact ⟨by omega, by omega⟩
theorem int_of_wf {x : Int} (h : (Lit.int .i64 x).wf = true) : -9223372036854775808 ≤ x ∧ x ≤ 9223372036854775807 := by
  simp [Lit.wf, IntKind.min, IntKind.max, IntKind.signed, IntKind.bits] at h
  exact ⟨by omega, by omega⟩
theorem lt_of_cell {w : World} {b off : Nat} {v : Value} (h : w.cell? ⟨b, off, none⟩ = some v) : b < w.heap.size := block_lt_of_cell h

theorem isB_of_cells {w : World} (x : Addr) (len : Nat) (zs : List Int) (hl : len ≤ zs.length) (hc : ∀ i, i < zs.length → w.cell? (x.add i) = some (.int .u8 (zs.getD i 0))) (hw : ∀ n ∈ zs, (Lit.int .u8 n).wf = true) : IsB w (some x) (zs.take len) := by
  refine ⟨fun n hn => byte_of_wf (hw n (List.mem_of_mem_take hn)), ?_⟩
  by_cases h0 : len = 0
  · exact .inl (by rw [h0]; rfl)
  · obtain ⟨b, off, spot⟩ := x
    have h1 := hc 0 (by omega)
    have hspot : spot = none := by simpa [Addr.add] using World.cell?_spot h1
    subst hspot
    refine .inr ⟨b, off, rfl, ?_, ?_⟩
    · rw [addr_add] at h1
      exact lt_of_cell h1
    · intro i hi
      rw [List.length_take] at hi
      rw [← addr_add, hc i (by omega)]
      simp [List.getD, show i < len by omega]
theorem isI_of_cells {w : World} (x : Addr) (len : Nat) (zs : List Int) (hl : len ≤ zs.length) (hc : ∀ i, i < zs.length → w.cell? (x.add i) = some (.int .i64 (zs.getD i 0))) (hw : ∀ n ∈ zs, (Lit.int .i64 n).wf = true) : IsI w (some x) (zs.take len) := by
  refine ⟨fun n hn => int_of_wf (hw n (List.mem_of_mem_take hn)), ?_⟩
  by_cases h0 : len = 0
  · exact .inl (by rw [h0]; rfl)
  · obtain ⟨b, off, spot⟩ := x
    have h1 := hc 0 (by omega)
    have hspot : spot = none := by simpa [Addr.add] using World.cell?_spot h1
    subst hspot
    refine .inr ⟨b, off, rfl, ?_, ?_⟩
    · rw [addr_add] at h1
      exact lt_of_cell h1
    · intro i hi
      rw [List.length_take] at hi
      rw [← addr_add, hc i (by omega)]
      simp [List.getD, show i < len by omega]

theorem Tryd.bytes5 : Tryd.prog.bytesOf 5 = 1 := by kernel_rfl
theorem Tryd.bytes3 : Tryd.prog.bytesOf 3 = 8 := by kernel_rfl

/-- A slice of bytes in a cell, and how long it may be. -/
theorem bytes_cells {H : Type} {enc : TypeId × Value → H} {W : World} {fuel : Nat} {cs : List Value} {x : DataW H × List MemPlace} (hf : DataW.trod enc Tryd.prog W 0 (fun _ => true) true fuel 22 cs = some x) :
    ∃ (a : Option Addr) (cap : Nat) (l : List Int), cs = [.slice a l.length cap] ∧ IsB W a l ∧ (a = none → l = [] ∧ cap = 0) ∧ l.length ≤ maxLen ∧ ((∀ n ∈ x.1.weights Tryd.prog 22, n ≤ reachBytes) → l.length ≤ 140737488355328) := by
  rcases open_ints Tryd.underlying22 Tryd.underlying5 (by kernel_rfl) hf with ⟨hcs, hx⟩ | ⟨y, l, c, zs, hcs, _, hl, hm, hz, hx, hcell, hwz⟩
  · exact ⟨none, 0, [], hcs, ⟨by simp, .inl rfl⟩, fun _ => ⟨rfl, rfl⟩, Nat.zero_le _, fun _ => Nat.zero_le _⟩
  · simp only [if_true] at hz
    refine ⟨some y, c, zs.take l, ?_, isB_of_cells y l zs (by omega) hcell hwz, by simp, by rw [List.length_take]; omega, fun hn => ?_⟩
    · rw [hcs, List.length_take, Nat.min_eq_left (by omega)]
    · rw [hx] at hn
      have := hn _ (by simp [DataW.weights, Tryd.underlying22]; left; rfl)
      simp [lits, Tryd.bytes5, reachBytes] at this
      rw [List.length_take]
      omega
theorem ints_cells {H : Type} {enc : TypeId × Value → H} {W : World} {fuel : Nat} {cs : List Value} {x : DataW H × List MemPlace} (hf : DataW.trod enc Tryd.prog W 0 (fun _ => true) true fuel 23 cs = some x) :
    ∃ (a : Option Addr) (cap : Nat) (l : List Int), cs = [.slice a l.length cap] ∧ IsI W a l ∧ (a = none → l = [] ∧ cap = 0) ∧ l.length ≤ maxLen ∧ ((∀ n ∈ x.1.weights Tryd.prog 23, n ≤ reachBytes) → l.length ≤ 17592186044416) := by
  rcases open_ints Tryd.underlying23 Tryd.underlying3 (by kernel_rfl) hf with ⟨hcs, hx⟩ | ⟨y, l, c, zs, hcs, _, hl, hm, hz, hx, hcell, hwz⟩
  · exact ⟨none, 0, [], hcs, ⟨by simp, .inl rfl⟩, fun _ => ⟨rfl, rfl⟩, Nat.zero_le _, fun _ => Nat.zero_le _⟩
  · simp only [if_true] at hz
    refine ⟨some y, c, zs.take l, ?_, isI_of_cells y l zs (by omega) hcell hwz, by simp, by rw [List.length_take]; omega, fun hn => ?_⟩
    · rw [hcs, List.length_take, Nat.min_eq_left (by omega)]
    · rw [hx] at hn
      have := hn _ (by simp [DataW.weights, Tryd.underlying23]; left; rfl)
      simp [lits, Tryd.bytes3, reachBytes] at this
      rw [List.length_take]
      omega

theorem open_bytes {H : Type} {enc : TypeId × Value → H} {W : World} {a : Option Addr} {len cap : Nat} {d : DataW H} {p : List MemPlace} (h : DataW.Trod enc Tryd.prog W 0 (fun _ => true) true 22 (.slice a len cap) d p) :
    ∃ l : List Int, l.length = len ∧ IsB W a l ∧ (a = none → l = [] ∧ cap = 0) ∧ len ≤ maxLen ∧ ((∀ n ∈ d.weights Tryd.prog 22, n ≤ reachBytes) → l.length ≤ 140737488355328) := by
  obtain ⟨fuel, hf⟩ := h
  obtain ⟨a', cap', l, hcs, h1, h2, h3, h4⟩ := bytes_cells hf
  simp [Value.cells] at hcs
  obtain ⟨rfl, rfl, rfl⟩ := hcs
  exact ⟨l, rfl, h1, h2, h3, h4⟩
theorem open_longs {H : Type} {enc : TypeId × Value → H} {W : World} {a : Option Addr} {len cap : Nat} {d : DataW H} {p : List MemPlace} (h : DataW.Trod enc Tryd.prog W 0 (fun _ => true) true 23 (.slice a len cap) d p) :
    ∃ l : List Int, l.length = len ∧ IsI W a l ∧ (a = none → l = [] ∧ cap = 0) ∧ len ≤ maxLen ∧ ((∀ n ∈ d.weights Tryd.prog 23, n ≤ reachBytes) → l.length ≤ 17592186044416) := by
  obtain ⟨fuel, hf⟩ := h
  obtain ⟨a', cap', l, hcs, h1, h2, h3, h4⟩ := ints_cells hf
  simp [Value.cells] at hcs
  obtain ⟨rfl, rfl, rfl⟩ := hcs
  exact ⟨l, rfl, h1, h2, h3, h4⟩

/-- A call, as it came in. -/
structure Cl where
  kd : Int
  «at» : Int
  a : Option Addr
  c : Nat
  b : List Int
  ka : Option Addr
  kc : Nat
  ks : List Int

/-- What a call's cells hold. -/
structure ClOk (w : World) (x : Cl) : Prop where
  kd : -9223372036854775808 ≤ x.kd ∧ x.kd ≤ 9223372036854775807
  «at» : -9223372036854775808 ≤ x.at ∧ x.at ≤ 9223372036854775807
  isB : IsB w x.a x.b
  nilB : x.a = none → x.b = [] ∧ x.c = 0
  lenB : x.b.length ≤ maxLen
  isI : IsI w x.ka x.ks
  nilI : x.ka = none → x.ks = [] ∧ x.kc = 0
  lenI : x.ks.length ≤ maxLen

/-- A slice of calls. -/
structure IsC (w : World) (a : Option Addr) (cs : List Cl) : Prop where
  at' : cs = [] ∨ ∃ b off, a = some ⟨b, off, none⟩ ∧ b < w.heap.size ∧ ∀ i (h : i < cs.length), w.cell? ⟨b, off + i * 4, none⟩ = some (.int .i64 cs[i].kd) ∧ w.cell? ⟨b, off + i * 4 + 1, none⟩ = some (.int .i64 cs[i].at) ∧
    w.cell? ⟨b, off + i * 4 + 2, none⟩ = some (.slice cs[i].a cs[i].b.length cs[i].c) ∧ w.cell? ⟨b, off + i * 4 + 3, none⟩ = some (.slice cs[i].ka cs[i].ks.length cs[i].kc)
  body : ∀ x ∈ cs, ClOk w x

theorem IsC.keep {w w' : World} {a : Option Addr} {cs : List Cl} (h : IsC w a cs) (hb : Below w.heap.size w w') : IsC w' a cs where
  at' := by
    rcases h.at' with h0 | ⟨b, off, e, hs, hc⟩
    · exact .inl h0
    · refine .inr ⟨b, off, e, by have := hb.size; omega, fun i hi => ?_⟩
      rw [hb.cell (p := ⟨b, off + i * 4, none⟩) hs, hb.cell (p := ⟨b, off + i * 4 + 1, none⟩) hs, hb.cell (p := ⟨b, off + i * 4 + 2, none⟩) hs, hb.cell (p := ⟨b, off + i * 4 + 3, none⟩) hs]
      exact hc i hi
  body := fun x hx => let y := h.body x hx; ⟨y.kd, y.at, y.isB.keep hb, y.nilB, y.lenB, y.isI.keep hb, y.nilI, y.lenI⟩

end Go.Proofs.YtgmmgklcndnehaaDoor
