/- Layer 21: noughts appended to bytes of one's own. -/
import Derived.Test.YtofmicbhheebiaaDoorGzAE
import Derived.Test.YtofmicbhheebiaaDoorGzAF
import Derived.Lib.AppendZerosOnto
namespace Go.Proofs.YtofmicbhheebiaaDoor
open Go.RowKit
set_option linter.unusedVariables false
set_option maxRecDepth 4000

theorem zeroCells_bytes (k : Nat) : (Builtin.zeroCells #[Value.int .u8 0] k).toList = (List.replicate k (0 : Int)).map (Value.int .u8) := by
  apply List.ext_getElem?
  intro i
  by_cases h : i < k
  · simp [Builtin.zeroCells, h, Nat.mod_one]
  · simp [Builtin.zeroCells, h]

theorem appZ (w : World) (ty : TypeId) (base : Nat) (hbase : base ≤ w.heap.size) (a : Option Addr) (L : List Int) (cap k : Nat) (hown : OwnsB w base a L cap) (hk : 0 < k) (hlen : L.length + k ≤ 256) :
    ∃ a' cap' w', (Builtin.append_ #[22, 3] ty #[.slice a L.length cap, .int .i64 (k : Nat)]).run Tryd.prog w = .ok (.slice a' (L ++ List.replicate k 0).length cap') w' ∧ OwnsB w' base a' (L ++ List.replicate k 0) cap' ∧ Below base w w' := by
  obtain ⟨i0, hi, hz0, hz1, hz2⟩ := info_parts Tryd.info5
  have hzc : (Value.int IntKind.u8 0).cells = #[Value.int .u8 0] := rfl
  have ll : (L ++ List.replicate k (0 : Int)).length = L.length + k := by simp
  have own := hown
  obtain ⟨h0, h1⟩ := hown
  by_cases room : L.length + k ≤ cap
  · rcases h1 with ⟨e, e2⟩ | ⟨g, c', cur, e, hg, hc, hle, hm, hcs, ht⟩
    · injection e with _ _ e3
      omega
    · injection e with e1 _ e3
      subst e1 e3
      have hlc : cur.toList.length = cap := by simpa using hcs
      have hst := run_storeCells_at Tryd.prog g L.length 5 ((List.replicate k (0 : Int)).map (Value.int .u8)) 0 cur w hc (by simp; omega) (by intro u hu; obtain ⟨x, _, rfl⟩ := List.mem_map.1 hu; rfl)
      simp only [Nat.add_zero] at hst
      have hw : IntKind.i64.wrap (k : Int) = k := by rw [IntKind.wrap_i64]; omega
      have hneg : ¬ ((k : Int) < 0) := by omega
      have h48 : ¬ (281474976710656 < (k : Int)) := by omega
      have hz : (Builtin.zeroCells #[Value.int .u8 0] k).toList = (List.replicate k (0 : Int)).map (Value.int .u8) := zeroCells_bytes k
      refine ⟨some ⟨g, 0, none⟩, cap, w.setRow g (cur.toList.take L.length ++ (List.replicate k (0 : Int)).map (Value.int .u8) ++ cur.toList.drop (L.length + k)).toArray, ?_, ?_, ?_⟩
      · rw [ll]
        have e0 : (⟨g, 0, none⟩ : Addr).add L.length = ⟨g, L.length, none⟩ := by rw [addr_add, Nat.zero_add]
        have hzv : ∀ W : World, (zeroValue 5).run Tryd.prog W = .ok (.int .u8 0) W := fun W => by simp [zeroValue, typeInfo, hi, hz0]
        have hl' : (List.replicate k (Value.int IntKind.u8 0)).length = k := by simp
        rw [List.map_replicate] at hz hst
        rw [hl'] at hst
        simp [Builtin.append_, run_underlying Tryd.underlying22, run_underlying Tryd.underlying3, sizeOf, typeInfo, hi, hz1, hz2, asInt, asIntOf, hw, hneg, h48, room, hzv, hzc, hz, e0, hst, show ¬ k = 0 by omega]
      · refine ⟨by simp, .inr ⟨g, cap, _, rfl, hg, setRow_heap w g cur _ 5 (0, 0) hc, by simp; omega, hm, ?_, ?_⟩⟩
        · simp; omega
        · have ht' : cur.toList.take L.length = L.map (Value.int .u8) := by simpa using ht
          rw [ht']
          show List.take _ (L.map (Value.int .u8) ++ (List.replicate k (0 : Int)).map (Value.int .u8) ++ _) = _
          rw [List.take_left' (by simp), List.map_append]
      · exact (Only.setRow g _ w).below hg
  · have hold : (Builtin.firstCells i0.size L.length (.slice a L.length cap)).run Tryd.prog w.drew = .ok (L.map (Value.int .u8)).toArray w.drew := by
      rw [hz1]
      have hI := (own : OwnsB w base a L cap)
      rcases h1 with ⟨e, e2⟩ | ⟨g, c', cur, e, hg, hc, hle, hm, hcs, ht⟩
      · injection e with e1 _ _
        subst e1
        have : L = [] := List.eq_nil_of_length_eq_zero e2
        subst this
        exact run_firstCells_none (P := Tryd.prog) w.drew 1 0 0 cap
      · injection e with e1 _ e3
        subst e1
        exact run_firstCells_some (P := Tryd.prog) w.drew 1 L.length _ L.length cap _ (by simp) (fun j v hj => by
          have := World.ownsRow.cells own (g := g) rfl j v hj
          exact this)
    have run := Lib.run_append_grow_zeros w 22 3 ty 5 i0 _ .i64 .i64 Tryd.underlying22 Tryd.underlying3 hi hz0 a L.length cap _ hold k hk (by omega) (by omega) (by omega) (by rw [hz2]; omega) (by
      rw [hz2]
      unfold Builtin.nextslicecap
      split
      · omega
      · split <;> omega)
    refine ⟨_, _, _, by rw [ll]; exact run, ?_, ?_⟩
    · refine ⟨by simp, .inr ⟨w.heap.size, _, _, rfl, hbase, Go.heap_alloc_new w.drew _, by rw [ll]; exact grownCap_ge _ _ _ _, grownCap_le_maxLen _ _ _ _ (by unfold maxLen; omega), ?_, ?_⟩⟩
      · have := grownCap_ge w (L.length + k) cap 5
        simp [size_zeroCells, hzc]
        omega
      · have hz : (Builtin.zeroCells #[Value.int .u8 0] k).toList = (List.replicate k (0 : Int)).map (Value.int .u8) := zeroCells_bytes k
        simp only [hzc, Array.toList_append, hz]
        rw [List.map_append, List.take_left' (by simp)]
    · have q := ((Below.refl w.drew.heap.size w.drew).alloc (Nat.le_refl _) (.cells ((L.map (Value.int .u8)).toArray ++ Builtin.zeroCells (Value.int IntKind.u8 0).cells k ++ Builtin.zeroCells (Value.int IntKind.u8 0).cells (grownCap w (L.length + k) cap 5 - (L.length + k))) 5)).mono hbase
      exact ⟨q.os, q.tape, q.output, q.size, q.block⟩
theorem wpList_appZ {ops : Array Oper} {rest : List Oper} {o : Oper} {a : Act} {Q : Exit → Act → World → Prop} {w : World} (hgd : o.guard = none) (s x : Operand)
    (ho : o.op = .call { callee := .builtin .append, args := #[s, x], argTypes := #[22, 3] })
    (base : Nat) (hbase : base ≤ w.heap.size) (as0 : Option Addr) (L : List Int) (cs k : Nat) (hs : a.eval s = .slice as0 L.length cs) (hx : a.eval x = .int .i64 (k : Nat)) (hown : OwnsB w base as0 L cs) (hk : 0 < k) (hlen : L.length + k ≤ 256)
    (h : ∀ a' cap' w', OwnsB w' base a' (L ++ List.replicate k 0) cap' → Below base w w' → wpList Tryd.prog ops Q rest (a.put o.dst (.slice a' (L ++ List.replicate k 0).length cap')) w') :
    wpList Tryd.prog ops Q (o :: rest) a w := by
  obtain ⟨a', cap', w', run, own, low⟩ := appZ w o.type base hbase as0 L cs k hown hk hlen
  exact Lib.wpList_append_run w hgd s x 22 3 ho _ _ hs hx _ _ run (h a' cap' w' own low)
end Go.Proofs.YtofmicbhheebiaaDoor
