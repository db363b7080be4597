/- A list for itself: what Clone of numbers, alike and the document's Copy make. -/
import Derived.Test.YtgpkiajakokjmaaKdE
namespace Go.Proofs.Ytgpkiajakokjmaa
open Go.RowKit
set_option linter.unusedVariables false
set_option maxRecDepth 4000

theorem owns_formI {w : World} {base n : Nat} {v : Value} {xs : List Value} (h : w.ownsRow base 3 1 v n xs) : ∃ a cap, v = .slice a n cap := by
  obtain ⟨_, ⟨rfl, rfl⟩ | ⟨g, c', cur, rfl, _⟩⟩ := h
  · exact ⟨_, _, rfl⟩
  · exact ⟨_, _, rfl⟩
theorem own_geI {w : World} {base cap : Nat} {a : Option Addr} {l : List Int} (h : OwnsI w base a l cap) : ∀ k, (Value.slice a l.length cap).ownBlock = some k → base ≤ k := by
  intro k hk
  obtain ⟨_, ⟨h1, h2⟩ | ⟨g, c', cur, h1, hg, h2, _⟩⟩ := h
  · rw [h1] at hk; simp [Value.ownBlock] at hk
  · rw [h1] at hk
    simp [Value.ownBlock] at hk
    omega
theorem OwnsI.keep {w w' : World} {base cap : Nat} {a : Option Addr} {l : List Int} (h : OwnsI w base a l cap) (hb : Below w.heap.size w w') : OwnsI w' base a l cap := by
  obtain ⟨h0, h1 | ⟨g, c', cur, h1, hg, h2, h3⟩⟩ := h
  · exact ⟨h0, .inl h1⟩
  · exact ⟨h0, .inr ⟨g, c', cur, h1, hg, by rw [hb.block g (Array.getElem?_eq_some_iff.1 h2).1]; exact h2, h3⟩⟩
theorem OwnsI.mono {w : World} {base base' cap : Nat} {a : Option Addr} {l : List Int} (h : OwnsI w base a l cap) (hb : base' ≤ base) : OwnsI w base' a l cap := by
  obtain ⟨h0, h1 | ⟨g, c', cur, h1, hg, h2⟩⟩ := h
  · exact ⟨h0, .inl h1⟩
  · exact ⟨h0, .inr ⟨g, c', cur, h1, by omega, h2⟩⟩
theorem OwnsI.drew {w : World} {base cap : Nat} {a : Option Addr} {l : List Int} (h : OwnsI w base a l cap) : OwnsI w.drew base a l cap := h
theorem OwnsI.parts {w : World} {base : Nat} {a : Option Addr} {l : List Int} {cap : Nat} (h : OwnsI w base a l cap) : l.length ≤ cap ∧ cap ≤ maxLen ∧ (a = none → l = [] ∧ cap = 0) ∧ (∀ ad, a = some ad → base ≤ ad.block ∧ ad.block < w.heap.size ∧ ad = ⟨ad.block, 0, none⟩) := by
  obtain ⟨_, ⟨h1, h2⟩ | ⟨g, c', cur, h1, hg, h2, h3, h4, _⟩⟩ := h
  · simp only [Value.slice.injEq] at h1
    obtain ⟨rfl, h1, rfl⟩ := h1
    exact ⟨by omega, Nat.zero_le _, fun _ => ⟨List.eq_nil_of_length_eq_zero h2, rfl⟩, fun ad e => by cases e⟩
  · cases h1
    exact ⟨h3, h4, by simp, fun ad e => by cases e; exact ⟨hg, (Array.getElem?_eq_some_iff.1 h2).1, rfl⟩⟩
theorem ownsI_none (w : World) (base : Nat) : OwnsI w base none [] 0 := World.ownsRow_nil _ _ _ _

/-- Numbers appended to none of one's own, as a run. -/
theorem appi_run (w : World) (ad : Addr) (l : List Int) (cx : Nat) (hB : IsI w (some ad) l) (hlen : l.length ≤ 17592186044416) :
    ∃ a' cap' w', (Builtin.append_ #[47, 47] 47 #[.slice (some ⟨w.heap.size, 0, none⟩) 0 0, .slice (some ad) l.length cx]).run Try.prog (w.alloc (.cells #[] 3)) = .ok (.slice a' l.length cap') w' ∧ OwnsI w' w.heap.size a' l cap' ∧ a' ≠ none ∧ Below w.heap.size w w' := by
  obtain ⟨i0, hi, hz0, hz1, hz2⟩ := info_parts Try.info3
  have hB' := hB.keep ((Below.refl _ w).alloc (Nat.le_refl _) (.cells #[] 3))
  obtain ⟨v', w', h1, h2, h3, h4⟩ := run_append_own (P := Try.prog) (w.alloc (.cells #[] 3)) w.heap.size 47 47 3 i0 (.int .i64 0) 1 8 Try.underlying47 hi hz0 hz1 hz2 rfl (by decide) _ 0 [] (ownsI_made w w.heap.size (Nat.le_refl _)) ad l.length cx (l.map (Value.int .i64)) (by simp) (by
      intro j u hj
      have hjn : j < l.length := by
        have := (List.getElem?_eq_some_iff.1 hj).1
        simpa using this
      obtain ⟨_, rfl | ⟨b, off, e, _, hc⟩⟩ := hB'
      · simp at hjn
      · cases e
        rw [addr_add, hc j hjn]
        have e : (l.map (Value.int .i64))[j]? = some (Value.int .i64 (l.getD j 0)) := by simp [List.getD, List.getElem?_eq_getElem hjn]
        rw [e] at hj
        exact hj) (by intro u hu; obtain ⟨x, _, rfl⟩ := List.mem_map.1 hu; rfl) (by unfold maxLen; omega) (by omega) (by simp)
  obtain ⟨a', cap', rfl⟩ := owns_formI h2
  rw [Nat.zero_add] at h1 h2
  refine ⟨a', cap', w', h1, by simpa [OwnsI] using h2, ?_, ?_⟩
  · intro e
    subst e
    simp only [List.nil_append] at h2
    obtain ⟨_, ⟨e1, e2⟩ | ⟨g, c', cur, e1, _⟩⟩ := h2
    · simp only [Value.slice.injEq] at e1
      have hl : l.length = 0 := e2
      simp [hl, e1.2.2] at h4
    · cases e1
  · exact ((Below.refl _ w).alloc (Nat.le_refl _) _).grown h3 (by simp) (by intro k hk; simp [Value.ownBlock] at hk; omega)
/-- The same, of none too. -/
theorem appi_any (w : World) (a : Option Addr) (l : List Int) (cx : Nat) (hB : IsI w a l) (hnil : a = none → l = [] ∧ cx = 0) (hlen : l.length ≤ 17592186044416) :
    ∃ a' cap' w', (Builtin.append_ #[47, 47] 47 #[.slice (some ⟨w.heap.size, 0, none⟩) 0 0, .slice a l.length cx]).run Try.prog (w.alloc (.cells #[] 3)) = .ok (.slice a' l.length cap') w' ∧ OwnsI w' w.heap.size a' l cap' ∧ a' ≠ none ∧ Below w.heap.size w w' := by
  rcases a with _ | ad
  · obtain ⟨rfl, rfl⟩ := hnil rfl
    obtain ⟨i0, hi, hz0, hz1, hz2⟩ := info_parts Try.info3
    have o := ownsI_made w w.heap.size (Nat.le_refl _)
    exact ⟨some ⟨w.heap.size, 0, none⟩, 0, _, run_append_owned_none (P := Try.prog) _ w.heap.size 47 47 3 i0 1 Try.underlying47 hi _ _ _ o, o, by simp, (Below.refl _ w).alloc (Nat.le_refl _) _⟩
  · exact appi_run w ad l cx hB hlen
/-- The same as a step of the walk. -/
theorem wpList_runi {ops : Array Oper} {rest : List Oper} {o : Oper} {a : Act} {Q : Exit → Act → World → Prop} {w : World} (hgd : o.guard = none) (hty : o.type = 47) (s x : Operand)
    (ho : o.op = .call { callee := .builtin .append, args := #[s, x], argTypes := #[47, 47] }) (v1 v2 v' : Value) (w' : World) (hs : a.eval s = v1) (hx : a.eval x = v2)
    (hrun : (Builtin.append_ #[47, 47] 47 #[v1, v2]).run Try.prog w = .ok v' w') (h : wpList Try.prog ops Q rest (a.put o.dst v') w') : wpList Try.prog ops Q (o :: rest) a w := by
  refine wpList_plain hgd fun K' hK' => ?_
  unfold Oper.wp
  simp [execOp, ho, hty, resolve, invoke, builtin, hs, hx, hrun, Result.andThen]
  exact hK' _ _ h

end Go.Proofs.Ytgpkiajakokjmaa
