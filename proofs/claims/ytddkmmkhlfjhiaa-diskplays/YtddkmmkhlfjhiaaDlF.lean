/- What the walk of DiskPlays stands on. -/
import Derived.Test.YtddkmmkhlfjhiaaDlE
import Derived.Test.YtddkmmkhlfjhiaaDkY
import Derived.Test.YtddkmmkhlfjhiaaDkT
import Derived.Deep.CutBlock
namespace Go.Proofs.Ytddkmmkhlfjhiaa
open Go.RowKit Go.Maps
set_option linter.unusedVariables false

theorem IsR.only {w w' : World} {base br g : Nat} {ok : Nat → Prop} {d : Dk} {o : Obj} (h : IsR w base br ok d) (ho : Only g w w') (hg : w.heap[g]? = some o) (hk : KR o = false) (hok : (∀ l, ¬ RowB w g 5 l) ∨ ¬ ok g) : IsR w' base br ok d :=
  h.same (fun i o' ho' hk' => by rw [ho.block i (fun e => by subst e; rw [hg] at ho'; cases ho'; rw [hk] at hk'; cases hk')]; exact ho')
    (fun g' l hr hg' => ho.row hr (fun e => by
      subst e
      rcases hok with h | h
      · exact h l hr
      · exact h hg'))
theorem Turn.cell {base g j : Nat} {K : Obj → Bool} {w w' : World} {o : Obj} (h : Turn base K w w') (hg : w.heap[g]? = some o) (hK : K o = false) : w'.cell? ⟨g, j, none⟩ = w.cell? ⟨g, j, none⟩ := World.cell?_of_block (by rw [h.block g o hg (.inr hK), hg])
theorem OwnsB.turn {base base' cap : Nat} {K : Obj → Bool} {w w' : World} {a : Option Addr} {l : List Int} (h : OwnsB w base a l cap) (ht : Turn base' K w w') (hk : ∀ cur, K (.cells cur 5 (0, 0)) = false) : OwnsB w' base a l cap :=
  owns_keepK (K := fun o => !K o) h (fun cur => by simp [hk cur]) (fun i o ho hk' => ht.block i o ho (.inr (by simpa using hk')))

/-- Both disks, so many calls in. -/
structure Pl (w0 wr : World) (b br i : Nat) (ok : Nat → Prop) (d : Dk) : Prop where
  isD : IsD wr w0.heap.size b i d
  isR : IsR wr w0.heap.size br ok d
  ops : d.ops ≤ i
  pend : d.pend.length ≤ i
  low : Below w0.heap.size w0 wr
theorem Pl.next {w0 wr : World} {b br i : Nat} {ok : Nat → Prop} {d : Dk} (h : Pl w0 wr b br i ok d) : Pl w0 wr b br (i + 1) (fun _ => True) d :=
  ⟨h.isD.mono (by omega), h.isR.mono (fun _ _ _ => trivial), by have := h.ops; omega, by have := h.pend; omega, h.low⟩
theorem Pl.keep {w0 wr w' : World} {b br i : Nat} {ok : Nat → Prop} {d : Dk} (h : Pl w0 wr b br i ok d) (hb : Below wr.heap.size wr w') : Pl w0 w' b br i ok d :=
  ⟨h.isD.keep hb, h.isR.keep hb, h.ops, h.pend, h.low.trans (hb.mono h.low.size)⟩
theorem Pl.drewN {w0 wr : World} {b br i : Nat} {ok : Nat → Prop} {d : Dk} (h : Pl w0 wr b br i ok d) (m : Nat) : Pl w0 (wr.drewN m) b br i ok d :=
  ⟨h.isD.same (fun _ _ ho _ => ho), h.isR.drewN m, h.ops, h.pend, ⟨h.low.os, h.low.tape, h.low.output, h.low.size, h.low.block⟩⟩
theorem Pl.drew {w0 wr : World} {b br i : Nat} {ok : Nat → Prop} {d : Dk} (h : Pl w0 wr b br i ok d) : Pl w0 wr.drew b br i ok d :=
  ⟨h.isD.drew, h.isR.drew, h.ops, h.pend, ⟨h.low.os, h.low.tape, h.low.output, h.low.size, h.low.block⟩⟩
theorem Pl.only {w0 wr w' : World} {b br i g : Nat} {ok : Nat → Prop} {d : Dk} {o : Obj} (h : Pl w0 wr b br i ok d) (ho : Only g wr w') (hg : wr.heap[g]? = some o) (hb : w0.heap.size ≤ g) (hc : KC o = false) (hk : KR o = false) (hok : (∀ l, ¬ RowB wr g 5 l) ∨ ¬ ok g) : Pl w0 w' b br i ok d :=
  ⟨h.isD.only ho hg hc, h.isR.only ho hg hk hok, h.ops, h.pend, h.low.trans (ho.below hb)⟩
/-- Both disks have taken a call. -/
theorem Pl.both {w0 w1 w2 w3 : World} {b br i : Nat} {ok : Nat → Prop} {d d' : Dk} (h : Pl w0 w1 b br i ok d) (i2 : IsD w2 w0.heap.size b (i + 1) d') (t2 : Turn w0.heap.size KC w1 w2) (i3 : IsR w3 w0.heap.size br ok d') (t3 : Turn w0.heap.size KR w2 w3) (ho : d'.ops ≤ i + 1) (hp : d'.pend.length ≤ i + 1) : Pl w0 w3 b br (i + 1) ok d' :=
  ⟨i2.turnR t3, i3, ho, hp, (h.low.trans (t2.below h.low.size)).trans (t3.below (by have := h.low.size; have := t2.size; omega))⟩

theorem writeD_le (d : Dk) (x : Int) (l : List Int) : (writeD d x l).ops ≤ d.ops + 1 ∧ (writeD d x l).pend.length ≤ d.pend.length + 1 := by
  unfold writeD
  split
  · rw [workD_pend]
    exact ⟨workD_ops _, by simp [pushD]⟩
  · omega
theorem flushD_le (d : Dk) : (flushD d).ops ≤ d.ops + 1 ∧ (flushD d).pend.length ≤ d.pend.length + 1 := by
  have := workD_ops d
  unfold flushD
  split
  · omega
  · split
    · rw [workD_pend]; omega
    · exact ⟨this, by simp [settleD]⟩
theorem armD_le (d : Dk) (x : Int) : (armD d x).ops ≤ d.ops + 1 ∧ (armD d x).pend.length ≤ d.pend.length + 1 := by
  unfold armD
  split
  · omega
  · exact ⟨by simp, by simp⟩
theorem crashD_le (d : Dk) (l : List Int) : (crashD d l).ops ≤ d.ops + 1 ∧ (crashD d l).pend.length ≤ d.pend.length + 1 := ⟨by simp [crashD, settleD], by simp [crashD, settleD]⟩

theorem size_any (n : Int) (w : World) (h0 : 0 ≤ n) (h1 : n ≤ 255) :
    Calls Try.prog 11 #[.int .u8 n] w fun e w' => e = .returned (.int .i64 ((8 + n.toNat % 32 : Nat) : Int)) ∧ w = w' := by
  obtain ⟨k, rfl⟩ : ∃ k : Nat, n = k := ⟨n.toNat, by omega⟩
  go_enter Try.func11, Try.ntmps11
  go_wp2
  go_ret
  exact ⟨rfl, rfl⟩

/-! ### numbers appended to a slice of one's own -/
theorem Try.info3 : (Try.prog.info? 3).map (fun i => (i.zero, i.size, i.bytes)) = some (some (.int .i64 0), 1, 8) := by kernel_rfl
def OwnsI (w : World) (base : Nat) (a : Option Addr) (l : List Int) (cap : Nat) : Prop := w.ownsRow base 3 1 (.slice a l.length cap) l.length (l.map (Value.int .i64))
theorem ownsI_made (w : World) : OwnsI (w.alloc (.cells #[] 3)) w.heap.size (some ⟨w.heap.size, 0, none⟩) [] 0 :=
  World.ownsRow_made w #[] 0 (Nat.le_refl _) (Nat.zero_le _) rfl
theorem ownsI_isI {w : World} {base : Nat} {a : Option Addr} {l : List Int} {cap : Nat} (hb : ∀ x ∈ l, -9223372036854775808 ≤ x ∧ x ≤ 9223372036854775807) (h : OwnsI w base a l cap) : IsI w a l := by
  refine ⟨hb, ?_⟩
  have h' := h
  obtain ⟨_, ⟨h1, h2⟩ | ⟨g, c', cur, h1, _, h2, _⟩⟩ := h
  · exact .inl (List.eq_nil_of_length_eq_zero h2)
  · cases h1
    refine .inr ⟨g, 0, rfl, (Array.getElem?_eq_some_iff.1 h2).1, ?_⟩
    intro i hi
    have := World.ownsRow.cellAt h' i (by omega)
    rw [Nat.zero_add, this]
    simp [List.getD, hi]
theorem OwnsI.turn {base base' cap : Nat} {K : Obj → Bool} {w w' : World} {a : Option Addr} {l : List Int} (h : OwnsI w base a l cap) (ht : Turn base' K w w') (hk : ∀ cur, K (.cells cur 3 (0, 0)) = false) : OwnsI w' base a l cap :=
  owns_keepK (K := fun o => !K o) h (fun cur => by simp [hk cur]) (fun i o ho hk' => ht.block i o ho (.inr (by simpa using hk')))
theorem wpList_appi {ops : Array Oper} {rest : List Oper} {o : Oper} {a : Act} {Q : Exit → Act → World → Prop} {w : World} (hgd : o.guard = none) (s x : Operand)
    (ho : o.op = .call { callee := .builtin .append, args := #[s, x], argTypes := #[33, 33] })
    (base g : Nat) (hbase : base ≤ w.heap.size) (hs : a.eval s = .slice (some ⟨g, 0, none⟩) 0 0) (hown : OwnsI w base (some ⟨g, 0, none⟩) [] 0)
    (ax : Option Addr) (l : List Int) (cx : Nat) (hx : a.eval x = .slice ax l.length cx) (hB : IsI w ax l) (hnil : ax = none → l = [] ∧ cx = 0) (hlen : l.length ≤ 17592186044416)
    (h : ∀ a' cap' w', OwnsI w' base a' l cap' → Below base w w' → wpList Try.prog ops Q rest (a.put o.dst (.slice a' l.length cap')) w') :
    wpList Try.prog ops Q (o :: rest) a w := by
  obtain ⟨i0, hi, hz0, hz1, hz2⟩ := info_parts Try.info3
  rcases ax with _ | ad
  · obtain ⟨rfl, rfl⟩ := hnil rfl
    refine wpList_append_own_none hgd s x 33 ho base 3 i0 1 Try.underlying33 hi _ _ _ hs hown hx ?_
    exact h _ _ w hown (Below.refl _ _)
  · refine wpList_append_own w hgd s x 33 ho base 3 i0 (.int .i64 0) 1 8 Try.underlying33 hi hz0 hz1 hz2 rfl (by decide) _ _ _ hs hown ad l.length cx (l.map (Value.int .i64)) hx (by simp) ?_ ?_ (by unfold maxLen; simp; omega) (by simp; omega) hbase ?_
    · intro j u hj
      have hjn : j < l.length := by
        have := (List.getElem?_eq_some_iff.1 hj).1
        simpa using this
      obtain ⟨_, rfl | ⟨b, off, e, _, hc⟩⟩ := hB
      · simp at hjn
      · cases e
        rw [addr_add, hc j hjn]
        have e : (l.map (Value.int .i64))[j]? = some (Value.int .i64 (l.getD j 0)) := by simp [List.getD, List.getElem?_eq_getElem hjn]
        rw [e] at hj
        exact hj
    · intro u hu; obtain ⟨x, _, rfl⟩ := List.mem_map.1 hu; rfl
    · intro v' w' h1 h2 h3
      have hf : ∃ a' cap', v' = .slice a' (([] : List Int).length + l.length) cap' := by
        obtain ⟨_, ⟨h4, h5⟩ | ⟨g, c', cur, h4, _⟩⟩ := h1
        · exact ⟨_, _, by rw [h4, h5]⟩
        · exact ⟨_, _, h4⟩
      obtain ⟨a', cap', rfl⟩ := hf
      have := h a' cap' w' (by simpa [OwnsI] using h1) ((Below.refl _ w).grown h2 hbase (by
        intro k hk
        obtain ⟨_, ⟨h4, _⟩ | ⟨g', c', cur, h4, hg, _⟩⟩ := hown
        · cases h4
        · cases h4; simp [Value.ownBlock] at hk; omega))
      simpa using this
end Go.Proofs.Ytddkmmkhlfjhiaa
