/- What settle does: laws of its operations. -/
import Derived.Test.YtgmmgklcndnehaaDoorDkG
import Derived.Lib.SlBytesConst
import Derived.Deep.Slices
import Derived.Deep.Strs
import Derived.Lib.SmallJoins
import Derived.Test.YtgmmgklcndnehaaDoorGzAB
import Derived.WalkKit
import Derived.WalkLawsBesides
import Derived.Below
namespace Go.Proofs.YtgmmgklcndnehaaDoor
open Go.RowKit Go.Maps
set_option linter.unusedVariables false
set_option maxRecDepth 4000

/-- A write in a block of its own. -/
def RowX (w : World) (g : Nat) (x : Wr) : Prop := w.heap[g]? = some (.cells (cellsX x).toArray 110 (0, 0))
theorem RowX.isB {w : World} {g : Nat} {x : Wr} (h : RowX w g x) (hb : AllB x.by) : IsB w (some ⟨g, 1, none⟩) x.by :=
  ⟨hb, .inr ⟨g, 1, rfl, (Array.getElem?_eq_some_iff.1 h).1, fun i hi => by
    rw [cell_of_row w g (1 + i) _ _ _ h, Nat.add_comm 1 i]
    simpa [cellsX] using cellsB_at x.by i hi⟩⟩

/-- copy, in a region that draws. -/
theorem step_copyB {ops : Array Oper} {o : Oper} {a : Act} {K : Act → World → Prop} {Q : Exit → Act → World → Prop} {E : Prop} {w : World} (hgd : o.guard = none) (s x : Operand)
    (ho : o.op = .call { callee := .builtin .copy, args := #[s, x], argTypes := #[22, 22] })
    (g off dl dc : Nat) (t : TypeId) (cur l : List Int) (ax : Option Addr) (n cap k : Nat) (hs : a.eval s = .slice (some ⟨g, off, none⟩) dl dc) (hx : a.eval x = .slice ax n cap) (hn : n = l.length) (hk : k = min n dl) (hg : RowB w g t cur) (hB : IsB w ax l) (hfit : off + k ≤ cur.length)
    (h : ∀ w1, RowB w1 g t (cur.take off ++ l.take k ++ cur.drop (off + k)) → Only g w w1 → K (a.put o.dst (goInt k)) w1) :
    if Region.wanted o (yielded ops a.tmps) = true then Oper.wp Tryd.prog o a w K Q else E := by
  have hw : Region.wanted o (yielded ops a.tmps) = true := by simp [Region.wanted, hgd]
  rw [if_pos hw]
  obtain ⟨w1, hrun, r1, r2⟩ := copy_run w o.type g off dl dc t cur l ax n cap k hn hk hg hB hfit
  unfold Oper.wp
  simp [execOp, ho, resolve, invoke, builtin, hs, hx, hrun, Result.andThen]
  exact h w1 r1 r2

/-- Under way: so many writes have been laid over what is sure. -/
structure Settling (w wr : World) (base b bs bn : Nat) (ap : Option Addr) (cp ns : Nat) (keep : Nat → Nat) (d : Dk) (k : Nat) (f : Int → Option (List Int)) : Prop where
  box : wr.heap[b]? = some (.cells (boxC bs bn ap cp d) 83 (0, 0))
  sure : MapS wr bs (ns + k) f
  row : RowW wr base ap d.pend cp
  fit : ∀ i : Nat, i < d.n → (f i).getD zeros = layAll keep 0 (d.pend.take k) d.sure i
  keys : ∀ i l, f i = some l → ∃ k : Nat, i = k ∧ k < d.n
  turn : Turn base KC w wr

def updF (f : Int → Option (List Int)) (i : Int) (l : List Int) : Int → Option (List Int) := fun j => if j = i then some l else f j

theorem Settling.next {w wr w4 w5 : World} {base b bs bn cp ns k : Nat} {ap : Option Addr} {keep : Nat → Nat} {d : Dk} {f : Int → Option (List Int)} (h : Settling w wr base b bs bn ap cp ns keep d k f) (hk : k < d.pend.length) (hat : d.pend[k].at < d.n)
    (hb : Below wr.heap.size wr w4) (hS : MapS w5 bs (ns + k + 1) (updF f d.pend[k].at (over (keep k) d.pend[k].by (layAll keep 0 (d.pend.take k) d.sure d.pend[k].at)))) (ht : w4.mapTurned w5 bs) (hge : base ≤ bs) :
    Settling w w5 base b bs bn ap cp ns keep d (k + 1) (updF f d.pend[k].at (over (keep k) d.pend[k].by (layAll keep 0 (d.pend.take k) d.sure d.pend[k].at))) := by
  have hel := turned_else ht
  obtain ⟨es, c, hq⟩ := h.sure.block
  have hq4 : w4.heap[bs]? = some (.map es c) := same_below hb _ _ hq rfl
  have hne : ∀ (i : Nat) (o : Obj), w4.heap[i]? = some o → (∀ es c, o ≠ .map es c) → w5.heap[i]? = some o := fun i o ho hn => by
    rw [hel.2 i (fun e => by subst e; rw [hq4] at ho; cases ho; exact hn _ _ rfl)]; exact ho
  refine ⟨?_, hS, ?_, fun i hi => ?_, fun i l hl => ?_, (h.turn.trans (Turn.ofBelow hb)).trans (turned_turn ht hge)⟩
  · exact hne b _ (same_below hb _ _ h.box rfl) (fun _ _ e => by cases e)
  · obtain ⟨h0, h1 | ⟨q, c', cur, h1, hg1, e2, e3⟩⟩ := RowW.same h.row (same_below hb)
    · exact ⟨h0, .inl h1⟩
    · exact ⟨h0, .inr ⟨q, c', cur, h1, hg1, hne q _ e2 (fun _ _ e => by cases e), e3⟩⟩
  · rw [layAll_step keep d.pend k hk]
    unfold updF updS
    by_cases e : i = d.pend[k].at
    · simp [e]
    · have e' : ¬ (i : Int) = (d.pend[k].at : Int) := by omega
      simp only [e, e', if_false]
      exact h.fit i hi
  · unfold updF at hl
    by_cases e : i = (d.pend[k].at : Int)
    · exact ⟨_, e, hat⟩
    · simp only [e, if_false] at hl
      exact h.keys i l hl

/-- The end: nothing is pending. -/
theorem Settling.done {w wr w' : World} {base b bs bn cp ns m q : Nat} {ap : Option Addr} {keep : Nat → Nat} {d : Dk} {f : Int → Option (List Int)} (h : Settling w wr base b bs bn ap cp ns keep d d.pend.length f) (hok : DkOk d) (hge : base ≤ b ∧ base ≤ bs) (hq : base ≤ q) (hm : ns + d.pend.length ≤ m)
    (hI : MapI w' q 0 (fun _ => none)) (hne : bs ≠ q) (hb : w'.heap[b]? = some (.cells (boxC bs q none 0 (settleD keep d)) 83 (0, 0))) (hs : ∀ o, wr.heap[bs]? = some o → w'.heap[bs]? = some o) : IsD w' base b m (settleD keep d) := by
  refine ⟨bs, q, none, 0, ns + d.pend.length, 0, f, fun _ => none, ⟨hb, h.sure.same (fun o ho _ => hs o ho), hI, rowW_nil _ _, hne, ⟨hge.1, hge.2, hq⟩, fun i hi => ?_, h.keys, newest_none⟩, by simpa [settleD] using hm, Nat.zero_le _, settleD_ok hok⟩
  have := h.fit i hi
  rw [List.take_length] at this
  exact this
end Go.Proofs.YtgmmgklcndnehaaDoor

/- What settle does. -/
namespace Go.Proofs.YtgmmgklcndnehaaDoor
open Go.RowKit Go.Maps
set_option linter.unusedVariables false
set_option maxRecDepth 4000

def intOf : Value → Int
  | .int _ n => n
  | _ => 0

/-! The operations of 's := d.sure[w.at]', whose order the model draws. -/
end Go.Proofs.YtgmmgklcndnehaaDoor

/- What Flush and Crash answer. -/
namespace Go.Proofs.YtgmmgklcndnehaaDoor
open Go.RowKit Go.Maps
set_option linter.unusedVariables false
set_option maxRecDepth 4000

/-- A slice of numbers. -/
def IsI (w : World) (a : Option Addr) (l : List Int) : Prop :=
  (∀ x ∈ l, -9223372036854775808 ≤ x ∧ x ≤ 9223372036854775807) ∧ (l = [] ∨ ∃ b off, a = some ⟨b, off, none⟩ ∧ b < w.heap.size ∧ ∀ i, i < l.length → w.cell? ⟨b, off + i, none⟩ = some (.int .i64 (l.getD i 0)))
theorem IsI.keep {w w' : World} {a : Option Addr} {l : List Int} (h : IsI w a l) (hb : Below w.heap.size w w') : IsI w' a l := by
  obtain ⟨h1, h2 | ⟨b, off, e, hs, hc⟩⟩ := h
  · exact ⟨h1, .inl h2⟩
  · refine ⟨h1, .inr ⟨b, off, e, by have := hb.size; omega, fun i hi => ?_⟩⟩
    rw [hb.cell (p := ⟨b, off + i, none⟩) hs]; exact hc i hi

end Go.Proofs.YtgmmgklcndnehaaDoor

/- The document's example of layer 5 comes out: alive answers true, and turns nothing that was there. -/
namespace Go.Proofs.YtgmmgklcndnehaaDoor
open Go.RowKit Go.Maps
set_option linter.unusedVariables false
set_option maxRecDepth 4000

end Go.Proofs.YtgmmgklcndnehaaDoor

/- What the laws of layer 5 share: how arguments that came in are opened. -/
namespace Go.Proofs.YtgmmgklcndnehaaDoor
open Go.ChangeShapes Go.WideShapes Go.ChangeAt Go.RowKit
set_option linter.unusedVariables false
set_option maxRecDepth 4000

theorem own : ownKnob Tryd.prog.godebug = none := by kernel_rfl
theorem int_of_wf {x : Int} (h : (Lit.int .i64 x).wf = true) : -9223372036854775808 ≤ x ∧ x ≤ 9223372036854775807 := by
  simp [Lit.wf, IntKind.min, IntKind.max, IntKind.signed, IntKind.bits] at h
  exact ⟨by omega, by omega⟩
theorem lt_of_cell {w : World} {b off : Nat} {v : Value} (h : w.cell? ⟨b, off, none⟩ = some v) : b < w.heap.size := block_lt_of_cell h

/-- A call, as it came in. -/
structure Cl where
  kd : Int
  «at» : Int
  a : Option Addr
  c : Nat
  b : List Int
  ka : Option Addr
  kc : Nat
  ks : List Int

/-- What a call's cells hold. -/
structure ClOk (w : World) (x : Cl) : Prop where
  kd : -9223372036854775808 ≤ x.kd ∧ x.kd ≤ 9223372036854775807
  «at» : -9223372036854775808 ≤ x.at ∧ x.at ≤ 9223372036854775807
  isB : IsB w x.a x.b
  nilB : x.a = none → x.b = [] ∧ x.c = 0
  lenB : x.b.length ≤ maxLen
  isI : IsI w x.ka x.ks
  nilI : x.ka = none → x.ks = [] ∧ x.kc = 0
  lenI : x.ks.length ≤ maxLen

/-- A slice of calls. -/
structure IsC (w : World) (a : Option Addr) (cs : List Cl) : Prop where
  at' : cs = [] ∨ ∃ b off, a = some ⟨b, off, none⟩ ∧ b < w.heap.size ∧ ∀ i (h : i < cs.length), w.cell? ⟨b, off + i * 4, none⟩ = some (.int .i64 cs[i].kd) ∧ w.cell? ⟨b, off + i * 4 + 1, none⟩ = some (.int .i64 cs[i].at) ∧
    w.cell? ⟨b, off + i * 4 + 2, none⟩ = some (.slice cs[i].a cs[i].b.length cs[i].c) ∧ w.cell? ⟨b, off + i * 4 + 3, none⟩ = some (.slice cs[i].ka cs[i].ks.length cs[i].kc)
  body : ∀ x ∈ cs, ClOk w x

theorem IsC.keep {w w' : World} {a : Option Addr} {cs : List Cl} (h : IsC w a cs) (hb : Below w.heap.size w w') : IsC w' a cs where
  at' := by
    rcases h.at' with h0 | ⟨b, off, e, hs, hc⟩
    · exact .inl h0
    · refine .inr ⟨b, off, e, by have := hb.size; omega, fun i hi => ?_⟩
      rw [hb.cell (p := ⟨b, off + i * 4, none⟩) hs, hb.cell (p := ⟨b, off + i * 4 + 1, none⟩) hs, hb.cell (p := ⟨b, off + i * 4 + 2, none⟩) hs, hb.cell (p := ⟨b, off + i * 4 + 3, none⟩) hs]
      exact hc i hi
  body := fun x hx => let y := h.body x hx; ⟨y.kd, y.at, y.isB.keep hb, y.nilB, y.lenB, y.isI.keep hb, y.nilI, y.lenI⟩

end Go.Proofs.YtgmmgklcndnehaaDoor

/- Slices of bytes of one's own; what the document's Copy and Same answer. -/
namespace Go.Proofs.YtgmmgklcndnehaaDoor
open Go.ChangeShapes Go.WideShapes Go.ChangeAt Go.RowKit
set_option linter.unusedVariables false
set_option maxRecDepth 4000

theorem Tryd.info5 : (Tryd.prog.info? 5).map (fun i => (i.zero, i.size, i.bytes)) = some (some (.int .u8 0), 1, 1) := by kernel_rfl

/-- What is owned, its value written out. -/
def OwnsB (w : World) (base : Nat) (a : Option Addr) (l : List Int) (cap : Nat) : Prop := w.ownsRow base 5 1 (.slice a l.length cap) l.length (l.map (Value.int .u8))

theorem owns_form {w : World} {base n : Nat} {v : Value} {xs : List Value} (h : w.ownsRow base 5 1 v n xs) : ∃ a cap, v = .slice a n cap := by
  obtain ⟨_, ⟨rfl, rfl⟩ | ⟨g, c', cur, rfl, _⟩⟩ := h
  · exact ⟨_, _, rfl⟩
  · exact ⟨_, _, rfl⟩

theorem ownsB_isB {w : World} {base : Nat} {a : Option Addr} {l : List Int} {cap : Nat} (hb : ∀ x ∈ l, 0 ≤ x ∧ x ≤ 255) (h : OwnsB w base a l cap) : IsB w a l := by
  refine ⟨hb, ?_⟩
  have h' := h
  obtain ⟨_, ⟨h1, h2⟩ | ⟨g, c', cur, h1, _, h2, _⟩⟩ := h
  · exact .inl (List.eq_nil_of_length_eq_zero h2)
  · cases h1
    refine .inr ⟨g, 0, rfl, (Array.getElem?_eq_some_iff.1 h2).1, ?_⟩
    intro i hi
    have := World.ownsRow.cellAt h' i (by omega)
    rw [Nat.zero_add, this]
    simp [List.getD, hi]

theorem ownsB_keep {w w' : World} {base cap : Nat} {a : Option Addr} {l : List Int} (h : OwnsB w base a l cap) (hb : Below w.heap.size w w') : OwnsB w' base a l cap := by
  obtain ⟨h0, h1 | ⟨g, c', cur, h1, hg, h2, h3⟩⟩ := h
  · exact ⟨h0, .inl h1⟩
  · exact ⟨h0, .inr ⟨g, c', cur, h1, hg, by rw [hb.block g (Array.getElem?_eq_some_iff.1 h2).1]; exact h2, h3⟩⟩

/-- An own row of bytes whose blocks stay. -/
theorem OwnsB.keep {w w' : World} {base cap : Nat} {a : Option Addr} {l : List Int} (h : OwnsB w base a l cap) (hb : Below w.heap.size w w') : OwnsB w' base a l cap := ownsB_keep h hb

theorem OwnsB.drewN {w : World} {base cap : Nat} {a : Option Addr} {l : List Int} (h : OwnsB w base a l cap) (m : Nat) : OwnsB (w.drewN m) base a l cap := h

/-- A new row of one's own, from a base below. -/
theorem OwnsB.mono {w : World} {base base' cap : Nat} {a : Option Addr} {l : List Int} (h : OwnsB w base a l cap) (hb : base' ≤ base) : OwnsB w base' a l cap := by
  obtain ⟨h0, h1 | ⟨g, c', cur, h1, hg, h2⟩⟩ := h
  · exact ⟨h0, .inl h1⟩
  · exact ⟨h0, .inr ⟨g, c', cur, h1, by omega, h2⟩⟩

/-- Bytes as a string. -/
def bs (l : List Int) : ByteArray := ⟨(l.map (fun x => UInt8.ofNat x.toNat)).toArray⟩

end Go.Proofs.YtgmmgklcndnehaaDoor

/- CnA: out of FrA. -/
set_option linter.unusedVariables false
set_option maxRecDepth 4000
set_option maxRecDepth 4000
namespace Go.Proofs.YtgmmgklcndnehaaDoor
open Go.RowKit

theorem within_any (n : Int) (w : World) :
    Calls Tryd.prog 64 #[.int .i64 n] w fun e w' => e = .returned (.int .i64 (clampW n)) ∧ w = w' := by
  go_enter Tryd.func64, Tryd.ntmps64
  go_wp2
  all_goals (go_ret; refine ⟨congrArg Ending.returned (congrArg (Value.int IntKind.i64) ?_), rfl⟩; unfold clampW; split <;> (try split) <;> omega)

theorem get_any (a : Option Addr) (cap : Nat) (l : List Int) (w : World) (h : IsB w a l) (hm : l.length ≤ maxLen) :
    Calls Tryd.prog 58 #[.slice a l.length cap] w fun e w' => e = .returned (.int .u64 (getL (l.take 8))) ∧ w = w' := by
  obtain ⟨hb, rfl | ⟨b, off, rfl, hsz, hc⟩⟩ := h
  · go_enter Tryd.func58, Tryd.ntmps58
    go_wp2
    refine wp_loop_rounds 1 ?_
    rw [rounds_succ]
    go_wp2
    go_ret
    exact ⟨rfl, rfl⟩
  · unfold maxLen at hm
    go_enter Tryd.func58, Tryd.ntmps58
    go_wp2
    all_goals
      go_loop [3, 8] (fun n i => ∃ k : Nat, k ≤ 8 ∧ k ≤ l.length ∧ i = .int .i64 k ∧ n = .int .u64 (getL (l.take k))) (fun _ i => 8 - (intOf i).toNat)
      case atStart => exact ⟨0, Nat.zero_le _, Nat.zero_le _, rfl, rfl⟩
      case round =>
        obtain ⟨k, hk8, hkl, rfl, rfl⟩ := hrel
        by_cases hlt : k < 8 ∧ k < l.length
        · obtain ⟨h8, hl⟩ := hlt
          have hcell := hc k hl
          have HG : Hid (bits BinOp.or IntKind.u64 (getL (l.take k)) (IntKind.u64.wrap (IntKind.u64.wrap l[k] * 2 ^ (8 * k))) = getL (l.take (k + 1))) := get_step l k hb h8 hl
          go_wp2
          go_round
          case rel => exact ⟨k + 1, by omega, by omega, by go_num, by rw [HG.out]⟩
          case measure => simp [intOf]; omega
        · have e8 : l.take 8 = l.take k := take_same l k hk8 hkl hlt
          have E8 : Hid (l.take 8 = l.take k) := e8
          clear e8
          go_wp2
          go_ret
          exact ⟨ret_int (by rw [E8.out]), rfl⟩
theorem IsB.drewN {w : World} {a : Option Addr} {l : List Int} (h : IsB w a l) (m : Nat) : IsB (w.drewN m) a l := h

theorem IsB.at {w : World} {b off : Nat} {l : List Int} (h : IsB w (some ⟨b, off, none⟩) l) (i : Nat) (hi : i < l.length) : w.cell? ⟨b, off + i, none⟩ = some (.int .u8 (l.getD i 0)) := by
  obtain ⟨_, rfl | ⟨b', off', e, hs, hc⟩⟩ := h
  · simp at hi
  · cases e
    exact hc i hi

/-- Get, its length and what it answers told apart. -/
theorem get_of (a : Option Addr) (cap n : Nat) (l : List Int) (v : Int) (w : World) (hn : n = l.length) (hv : getL (l.take 8) = v) (h : IsB w a l) (hm : l.length ≤ maxLen) :
    Calls Tryd.prog 58 #[.slice a n cap] w fun e w' => e = .returned (.int .u64 v) ∧ w = w' := by
  subst hn hv; exact get_any a cap l w h hm
end Go.Proofs.YtgmmgklcndnehaaDoor
