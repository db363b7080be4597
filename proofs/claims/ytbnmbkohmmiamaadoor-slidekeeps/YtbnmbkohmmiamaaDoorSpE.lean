/- What List of a set in memory answers. -/
import Derived.Test.YtbnmbkohmmiamaaDoorSpD
namespace Go.Proofs.YtbnmbkohmmiamaaDoor
open Go.RowKit
set_option linter.unusedVariables false


/-- A list of integers of a kind in a block of the call's own. -/
def Owns (w : World) (base : Nat) (e : TypeId) (k : IntKind) (a : Option Addr) (l : List Int) (cap : Nat) : Prop := w.ownsRow base e 1 (.slice a l.length cap) l.length (l.map (Value.int k))
/-- A list of integers that is read. -/
def IsL (w : World) (k : IntKind) (a : Option Addr) (l : List Int) : Prop :=
  l = [] ∨ ∃ b off, a = some ⟨b, off, none⟩ ∧ b < w.heap.size ∧ ∀ i, i < l.length → w.cell? ⟨b, off + i, none⟩ = some (.int k (l.getD i 0))
theorem IsL.keep {w w' : World} {k : IntKind} {a : Option Addr} {l : List Int} (h : IsL w k a l) (hb : Below w.heap.size w w') : IsL w' k a l := by
  rcases h with h | ⟨b, off, e, hs, hc⟩
  · exact .inl h
  · refine .inr ⟨b, off, e, by have := hb.size; omega, fun i hi => ?_⟩
    rw [hb.cell (p := ⟨b, off + i, none⟩) hs]
    exact hc i hi
theorem owns_form {w : World} {base n : Nat} {e : TypeId} {v : Value} {xs : List Value} (h : w.ownsRow base e 1 v n xs) : ∃ a cap, v = .slice a n cap := by
  obtain ⟨_, ⟨rfl, rfl⟩ | ⟨g, c', cur, rfl, _⟩⟩ := h
  · exact ⟨_, _, rfl⟩
  · exact ⟨_, _, rfl⟩
theorem Owns.isL {w : World} {base : Nat} {e : TypeId} {k : IntKind} {a : Option Addr} {l : List Int} {cap : Nat} (h : Owns w base e k a l cap) : IsL w k a l := by
  have h' := h
  obtain ⟨_, ⟨h1, h2⟩ | ⟨g, c', cur, h1, _, h2, _⟩⟩ := h
  · exact .inl (List.eq_nil_of_length_eq_zero h2)
  · cases h1
    refine .inr ⟨g, 0, rfl, (Array.getElem?_eq_some_iff.1 h2).1, ?_⟩
    intro i hi
    have := World.ownsRow.cellAt h' i (by omega)
    rw [Nat.zero_add, this]
    simp [List.getD, hi]
theorem Owns.ge {w : World} {base cap : Nat} {e : TypeId} {k : IntKind} {a : Option Addr} {l : List Int} (h : Owns w base e k a l cap) : ∀ j, (Value.slice a l.length cap).ownBlock = some j → base ≤ j := by
  intro j hj
  obtain ⟨_, ⟨h1, h2⟩ | ⟨g, c', cur, h1, hg, h2, _⟩⟩ := h
  · rw [h1] at hj; simp [Value.ownBlock] at hj
  · rw [h1] at hj
    simp [Value.ownBlock] at hj
    omega
theorem Owns.keep {w w' : World} {base cap : Nat} {e : TypeId} {k : IntKind} {a : Option Addr} {l : List Int} (h : Owns w base e k a l cap) (hb : Below w.heap.size w w') : Owns w' base e k a l cap := by
  obtain ⟨h0, h1 | ⟨g, c', cur, h1, hg, h2, h3⟩⟩ := h
  · exact ⟨h0, .inl h1⟩
  · exact ⟨h0, .inr ⟨g, c', cur, h1, hg, by rw [hb.block g (Array.getElem?_eq_some_iff.1 h2).1]; exact h2, h3⟩⟩
/-- One integer is appended to a list of the call's own. -/
theorem wpList_one {ops : Array Oper} {rest : List Oper} {o : Oper} {a : Act} {Q : Exit → Act → World → Prop} {w : World} (hgd : o.guard = none) (s x : Operand) (t e : TypeId) (k : IntKind) (z : Int) (bytes : Nat)
    (ho : o.op = .call { callee := .builtin .append, args := #[s, x], argTypes := #[t, t] })
    (ht : Tryd.prog.underlying t = some (.slice e)) (hin : (Tryd.prog.info? e).map (fun i => (i.zero, i.size, i.bytes)) = some (some (.int k z), 1, bytes))
    (base : Nat) (hbase : base ≤ w.heap.size) (as0 : Option Addr) (L : List Int) (cs : Nat) (hs : a.eval s = .slice as0 L.length cs) (hown : Owns w base e k as0 L cs)
    (g c : Nat) (y : Int) (hx : a.eval x = .slice (some ⟨g, 0, none⟩) 1 c) (hc : w.cell? ⟨g, 0, none⟩ = some (.int k y)) (hlen : (L.length + 1) * bytes ≤ 140737488355328) (hmax : L.length ≤ 140737488355328)
    (h : ∀ a' cap' w', Owns w' base e k a' (L ++ [y]) cap' → Below base w w' → wpList Tryd.prog ops Q rest (a.put o.dst (.slice a' (L ++ [y]).length cap')) w') :
    wpList Tryd.prog ops Q (o :: rest) a w := by
  obtain ⟨i0, hi, hz0, hz1, hz2⟩ := info_parts hin
  refine wpList_append_own w hgd s x t ho base e i0 (.int k z) 1 bytes ht hi hz0 hz1 hz2 rfl (by decide) _ _ _ hs hown ⟨g, 0, none⟩ 1 c [.int k y] hx rfl ?_ ?_ (by unfold maxLen; omega) hlen hbase ?_
  · intro j u hj
    match j, hj with
    | 0, hj => simp at hj; subst hj; simpa [Addr.add] using hc
  · intro u hu; simp at hu; subst hu; rfl
  · intro v' w' h1 h2 h3
    obtain ⟨a', cap', rfl⟩ := owns_form h1
    have := h a' cap' w' (by simpa [Owns] using h1) ((Below.refl _ w).grown h2 hbase hown.ge)
    simpa using this
theorem Tryd.info3 : (Tryd.prog.info? 3).map (fun i => (i.zero, i.size, i.bytes)) = some (some (.int .i64 0), 1, 8) := by kernel_rfl
theorem make_ints (c : Nat) (hc : c ≤ 65536) (w : World) : (Instr.makeSlice 44 (.int .i64 0) (.int .i64 (c : Int))).run Tryd.prog w = .ok (.slice (some ⟨w.heap.size, 0, none⟩) 0 c) (w.alloc (.cells (madeCells #[.int .i64 0] c) 3)) := by
  obtain ⟨i0, hi, hz0, hz1, hz2⟩ := info_parts Tryd.info3
  have := run_make (P := Tryd.prog) w 44 3 i0 (.int .i64 0) Tryd.underlying44 hi hz0 .i64 .i64 0 c (by omega) (by omega) (by rw [hz2]; omega) (by omega)
  rw [hz1] at this
  simp only [Int.toNat_natCast, Int.toNat_zero, Nat.mul_one] at this
  exact this
def lenOf : Value → Nat
  | .slice _ k _ => k
  | _ => 0
set_option maxHeartbeats 1000000 in
theorem list_any (b g n : Nat) (f : Nat → Bool) (w : World) (hS : SetAt w b g n f) (hT : TabB w) :
    Calls Tryd.prog 62 #[.pointer (some ⟨b, 0, none⟩)] w fun e w' => ∃ a cap, e = .returned (.slice a (lsL f n).length cap) ∧ Owns w' w.heap.size 3 .i64 a (lsL f n) cap ∧ Below w.heap.size w w' := by
  have few := hS.few
  have hc := Nat.le_trans (cnt_le f n) few
  have HS : Hid (SetAt w b g n f) := hS
  have HT : Hid (TabB w) := hT
  have hmk := make_ints (cnt f n) hc
  clear hS hT
  go_enter Tryd.func62, Tryd.ntmps62
  go_wp2_with (go_at_call 41; refine (count_any b g n f _ HS.out).mono ?_; rintro e w' ⟨rfl, rfl⟩)
  have B1 : Hid (Below w.heap.size w (w.alloc (.cells (madeCells #[.int .i64 0] (cnt f n)) 3))) := (Below.refl _ w).alloc (Nat.le_refl _) _
  refine (first_any b g n f _ _ (HS.out.keepAll B1.out) (HT.out.keep B1.out HT.out.1) (by omega)).mono ?_
  rintro e w' ⟨rfl, rfl⟩
  go_wp2
  go_loopw [3, 4] (fun lv iv wr => ∃ (k : Nat) (a : Option Addr) (cap : Nat), k ≤ n ∧ lv = .slice a (lsL f k).length cap ∧ iv = .int .i64 (nextL f n k) ∧ Owns wr w.heap.size 3 .i64 a (lsL f k) cap ∧ Below w.heap.size w wr) (fun lv _ _ => n - lenOf lv)
  case atStart => exact ⟨0, some ⟨w.heap.size, 0, none⟩, cnt f n, Nat.zero_le _, rfl, rfl, World.ownsRow_made w _ _ (Nat.le_refl _) (by unfold maxLen; omega) (by simp [madeCells]), B1.out⟩
  case round =>
    obtain ⟨k, a, cap, hk, rfl, rfl, ho, hb⟩ := hrel
    have HO : Hid (Owns _ w.heap.size 3 .i64 a (lsL f k) cap) := ho
    have HB : Hid (Below w.heap.size w _) := hb
    have hll : (lsL f k).length ≤ k := by rw [lsL_len]; exact cnt_le f k
    clear ho hb
    rcases nextL_cases f n k with ⟨hn, hno⟩ | ⟨j, hj, hkj, hjn, hfj, hno⟩
    · have EL : Hid (lsL f n = lsL f k) := by
        have := lsL_skip f k (n - k) (fun i h1 h2 => hno i h1 (by omega))
        rw [show k + (n - k) = n from by omega] at this
        exact this
      rw [hn]
      clear hno hn
      go_wp2
      go_ret
      rw [EL.out]
      exact ⟨a, cap, rfl, HO.out, HB.out⟩
    · have EL : Hid (lsL f (j + 1) = lsL f k ++ [(j : Int)]) := lsL_one f k j hkj hno hfj
      rw [hj]
      clear hno hj hfj
      go_wp2_with (at_builtin; refine wpList_one rfl _ _ 44 3 .i64 0 8 rfl Tryd.underlying44 Tryd.info3 w.heap.size ?q1 a (lsL f k) cap rfl ?q2 _ 1 (j : Int) rfl ?q3 ?q4 ?q5 ?_)
      case q1 => have := HB.out.size; simp; omega
      case q2 => exact World.ownsRow.alloc HO.out _
      case q3 => simp
      case q4 => omega
      case q5 => omega
      intro a3 c3 w3 o3 b3
      have O3 : Hid (Owns w3 w.heap.size 3 .i64 a3 (lsL f (j + 1)) c3) := by show Owns _ _ _ _ _ _ _; rw [EL.out]; exact o3
      have B3 : Hid (Below w.heap.size w w3) := (HB.out.alloc HB.out.size _).trans b3
      have hlen : (lsL f k).length + 1 = (lsL f (j + 1)).length := by rw [EL.out]; simp
      rw [hlen]
      have HL : Hid ((lsL f k).length + 1 = (lsL f (j + 1)).length) := hlen
      clear o3 b3 hlen
      go_wp2_with fail
      refine (first_any b g n f _ _ (HS.out.keepAll B3.out) (HT.out.keep B3.out HT.out.1) (by omega)).mono ?_
      rintro e w' ⟨rfl, rfl⟩
      go_wp2
      go_roundw
      case rel => exact ⟨j + 1, a3, c3, by omega, rfl, by congr 2, O3.out, B3.out⟩
      case measure => have := HL.out; simp [lenOf]; omega
end Go.Proofs.YtbnmbkohmmiamaaDoor
