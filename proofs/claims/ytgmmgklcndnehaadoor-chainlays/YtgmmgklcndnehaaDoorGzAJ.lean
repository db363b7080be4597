/- Layer 19: the document's Lay. -/
import Derived.Test.YtgmmgklcndnehaaDoorChT1
import Derived.Test.YtgmmgklcndnehaaDoorChT2
import Derived.Test.YtgmmgklcndnehaaDoorGzAI
import Derived.Laws.AppendOwnNone
namespace Go.Proofs.YtgmmgklcndnehaaDoor
open Go.RowKit Go.Maps
set_option linter.unusedVariables false
set_option maxRecDepth 4000

/-- The document's Lay. -/
theorem dlay_any (a al : Option Addr) (cap cl : Nat) (b l : List Int) (w : World) (hB : IsB w a b) (hbc : b.length ≤ cap) (hcm : cap ≤ maxLen) (hI : IsI w al l) (hl : l.length ≤ maxLen) :
    Calls Tryd.prog 11 #[.slice a b.length cap, .slice al l.length cl] w (DyP w b l) := by
  by_cases h1 : 65542 < b.length
  · exact dlay_long a al cap cl b l w h1 (Nat.le_trans hbc hcm)
  · by_cases h2 : l.length = cntC b.length
    · by_cases h3 : b.length = 56 * l.length
      · exact dlay_whole a al cap cl b l w hB hbc hcm (by omega) h2 hI h3
      · exact dlay_part a al cap cl b l w hB hbc hcm (by omega) h2 hI (by unfold cntC at h2; omega)
    · exact dlay_count a al cap cl b l w (by omega) hl h2
end Go.Proofs.YtgmmgklcndnehaaDoor

/- Layer 19: Writes holds writes against writes; a row of numbers of one's own; bytes of writes that are turned. -/
namespace Go.Proofs.YtgmmgklcndnehaaDoor
open Go.RowKit Go.Maps
set_option linter.unusedVariables false
set_option maxRecDepth 4000

theorem ownsI_made (w : World) (base : Nat) (h : base ≤ w.heap.size) : OwnsI (w.alloc (.cells #[] 3)) base (some ⟨w.heap.size, 0, none⟩) [] 0 :=
  World.ownsRow_made w #[] 0 h (Nat.zero_le _) rfl
theorem wpList_appi {ops : Array Oper} {rest : List Oper} {o : Oper} {a : Act} {Q : Exit → Act → World → Prop} {w : World} (hgd : o.guard = none) (s x : Operand)
    (ho : o.op = .call { callee := .builtin .append, args := #[s, x], argTypes := #[23, 23] })
    (base g : Nat) (hbase : base ≤ w.heap.size) (hs : a.eval s = .slice (some ⟨g, 0, none⟩) 0 0) (hown : OwnsI w base (some ⟨g, 0, none⟩) [] 0)
    (ax : Option Addr) (l : List Int) (cx : Nat) (hx : a.eval x = .slice ax l.length cx) (hB : IsI w ax l) (hnil : ax = none → l = [] ∧ cx = 0) (hlen : l.length ≤ 17592186044416)
    (h : ∀ a' cap' w', OwnsI w' base a' l cap' → Below base w w' → wpList Tryd.prog ops Q rest (a.put o.dst (.slice a' l.length cap')) w') :
    wpList Tryd.prog ops Q (o :: rest) a w := by
  obtain ⟨i0, hi, hz0, hz1, hz2⟩ := info_parts Tryd.info3
  rcases ax with _ | ad
  · obtain ⟨rfl, rfl⟩ := hnil rfl
    refine wpList_append_own_none hgd s x 23 ho base 3 i0 1 Tryd.underlying23 hi _ _ _ hs hown hx ?_
    exact h _ _ w hown (Below.refl _ _)
  · refine wpList_append_own w hgd s x 23 ho base 3 i0 (.int .i64 0) 1 8 Tryd.underlying23 hi hz0 hz1 hz2 rfl (by decide) _ _ _ hs hown ad l.length cx (l.map (Value.int .i64)) hx (by simp) ?_ ?_ (by unfold maxLen; simp; omega) (by simp; omega) hbase ?_
    · intro j u hj
      have hjn : j < l.length := by
        have := (List.getElem?_eq_some_iff.1 hj).1
        simpa using this
      obtain ⟨_, rfl | ⟨b, off, e, _, hc⟩⟩ := hB
      · simp at hjn
      · cases e
        rw [addr_add, hc j hjn]
        have e : (l.map (Value.int .i64))[j]? = some (Value.int .i64 (l.getD j 0)) := by simp [List.getD, List.getElem?_eq_getElem hjn]
        rw [e] at hj
        exact hj
    · intro u hu; obtain ⟨x, _, rfl⟩ := List.mem_map.1 hu; rfl
    · intro v' w' h1 h2 h3
      have hf : ∃ a' cap', v' = .slice a' (([] : List Int).length + l.length) cap' := by
        obtain ⟨_, ⟨h4, h5⟩ | ⟨g, c', cur, h4, _⟩⟩ := h1
        · exact ⟨_, _, by rw [h4, h5]⟩
        · exact ⟨_, _, h4⟩
      obtain ⟨a', cap', rfl⟩ := hf
      have := h a' cap' w' (by simpa [OwnsI] using h1) ((Below.refl _ w).grown h2 hbase (by
        intro k hk
        obtain ⟨_, ⟨h4, _⟩ | ⟨g', c', cur, h4, hg, _⟩⟩ := hown
        · cases h4
        · cases h4; simp [Value.ownBlock] at hk; omega))
      simpa using this

set_option maxRecDepth 20000 in
set_option maxHeartbeats 4000000 in
/-- The same writes. -/
theorem dwrites_same (N K g n c : Nat) (a : Option Addr) (qs : List En) (ws : List (Int × List Int)) (w : World) (hW : WrB w N g n 0 ws) (hR : WrR w K a c qs) (hm : qs.map (fun x => (x.s, x.b)) = ws) (hn : n ≤ 100000) :
    Calls Tryd.prog 13 #[.slice (some ⟨g, 0, none⟩) n n, .slice a qs.length c] w fun e w' => e = .returned (.bool true) ∧ Below w.heap.size w w' := by
  have hl : qs.length = n := by rw [← hW.len, ← hm, List.length_map]
  have FACT : Hid (∀ k, k < n → ∃ s x1 x2 cc bs g2, a = some ⟨g2, 0, none⟩ ∧ w.cell? ⟨g, k * 2, none⟩ = some (.int .i64 s) ∧ w.cell? ⟨g, k * 2 + 1, none⟩ = some (.slice x1 64 64) ∧ w.cell? ⟨g2, k * 2, none⟩ = some (.int .i64 s) ∧ w.cell? ⟨g2, k * 2 + 1, none⟩ = some (.slice x2 64 cc) ∧ IsB w x1 bs ∧ IsB w x2 bs ∧ bs.length = 64) := fun k h => by
    have hq : k < qs.length := by omega
    have hw' : k < ws.length := by rw [hW.len]; exact h
    obtain ⟨g2, ea, _, _, c0, c1⟩ := hR.row.cell hq
    obtain ⟨d0, q, _, d1, rb⟩ := hW.at k hw' (Nat.zero_le _)
    obtain ⟨ob, bl, ab⟩ := hR.by' _ (List.getElem_mem hq)
    have e : ws[k] = (qs[k].s, qs[k].b) := by subst hm; simp
    rw [e] at d0 rb
    exact ⟨_, _, _, _, _, g2, ea, d0, d1, c0, c1, rb.isB ab, ownsB_isB ab ob, bl⟩
  rw [hl]
  clear hW hR hm hl
  go_enter Tryd.func13, Tryd.ntmps13
  go_wp2
  go_loopw [13] (fun iv wr => ∃ k m : Nat, k ≤ n ∧ iv = .int .i64 k ∧ wr = w.drewN m) (fun iv _ => n - (intOf iv).toNat)
  case atStart => exact ⟨0, 0, Nat.zero_le _, rfl, rfl⟩
  case round =>
    obtain ⟨k, m, hk, rfl, rfl⟩ := hrel
    by_cases hlt : k < n
    · obtain ⟨s, x1, x2, cc, bs, g2, rfl, c0, c1, c2, c3, i1, i2, hb⟩ := FACT.out k hlt
      have I1 : Hid (IsB w x1 bs) := i1
      have I2 : Hid (IsB w x2 bs) := i2
      have HB : Hid (bs.length = 64) := hb
      have hq : (s != s) = false := by simp
      clear i1 i2 hb
      go_wp2_with fail
      go_quiet ((go_at_call 16; exact (same_true _ _ _ _ _ _ bs _ (I1.out.drewN _) (I2.out.drewN _) HB.out.symm HB.out.symm).mono (fun e w'' h => ⟨h.1, _, h.2.symm⟩)))
      go_wp2
      go_roundw
      case rel => exact ⟨k + 1, m + nq, by omega, by go_num, rfl⟩
      case measure => simp [intOf]; omega
    · go_wp2
      go_ret
      exact ⟨rfl, ⟨rfl, rfl, rfl, Nat.le_refl _, fun _ _ => rfl⟩⟩
/-- No writes are no writes. -/
theorem dwrites_none (w : World) :
    Calls Tryd.prog 13 #[.slice none 0 0, .slice none 0 0] w fun e w' => e = .returned (.bool true) ∧ Below w.heap.size w w' := by
  go_enter Tryd.func13, Tryd.ntmps13
  go_wp2
  go_loopw [13] (fun iv wr => iv = .int .i64 0 ∧ wr = w) (fun _ _ => 0)
  case atStart => exact ⟨rfl, rfl⟩
  case round =>
    obtain ⟨rfl, rfl⟩ := hrel
    go_wp2
    go_ret
    exact ⟨rfl, Below.refl _ _⟩

/-- Writes whose bytes may be turned. -/
structure Inc (w : World) (N g n : Nat) : Prop where
  row : ∃ cs : Array Value, w.heap[g]? = some (.cells cs 37 (0, 0))
  «at» : ∀ i, i < n → ∃ q bs, N ≤ q ∧ w.cell? ⟨g, i * 2 + 1, none⟩ = some (.slice (some ⟨q, 0, none⟩) 64 64) ∧ RowB w q 5 bs ∧ bs.length = 64 ∧ AllB bs
theorem WrB.inc {w : World} {N g n : Nat} {ws : List (Int × List Int)} (h : WrB w N g n 0 ws) (hb : ∀ x ∈ ws, x.2.length = 64 ∧ AllB x.2) : Inc w N g n := by
  obtain ⟨cs, h1, _⟩ := h.row
  refine ⟨⟨cs, h1⟩, fun i hi => ?_⟩
  have hi' : i < ws.length := by rw [h.len]; exact hi
  obtain ⟨_, q, hq, d1, rb⟩ := h.at i hi' (Nat.zero_le _)
  exact ⟨q, _, hq, d1, rb, hb _ (List.getElem_mem hi')⟩
theorem Inc.keep {w w' : World} {N g n : Nat} (h : Inc w N g n) (b : Below w.heap.size w w') : Inc w' N g n := by
  obtain ⟨cs, h1⟩ := h.row
  have lt := (Array.getElem?_eq_some_iff.1 h1).1
  refine ⟨⟨cs, by rw [b.block g lt]; exact h1⟩, fun i hi => ?_⟩
  obtain ⟨q, bs, hq, d1, rb, hl, ha⟩ := h.at i hi
  exact ⟨q, bs, hq, by rw [b.cell (p := ⟨g, i * 2 + 1, none⟩) lt]; exact d1, rb.keep b, hl, ha⟩
theorem Inc.drew {w : World} {N g n : Nat} (h : Inc w N g n) : Inc w.drew N g n := ⟨h.row, h.at⟩
/-- A byte of them is turned. -/
theorem Inc.turn {w : World} {N g n q : Nat} {bs : List Int} (h : Inc w N g n) (hq : RowB w q 5 bs) (hl : bs.length = 64) (ha : AllB bs) (j : Nat) (x : Int) (h0 : 0 ≤ x ∧ x ≤ 255) : Inc (w.setCell ⟨q, j, none⟩ (.int .u8 x)) N g n := by
  obtain ⟨cs, h1⟩ := h.row
  have hne : g ≠ q := fun e => by
    subst e
    have hq' : w.heap[g]? = some (.cells (cellsB bs).toArray 5 (0, 0)) := hq
    rw [h1] at hq'
    cases hq'
  have on := Only.set q j (.int .u8 x) w
  refine ⟨⟨cs, by rw [on.block g hne]; exact h1⟩, fun i hi => ?_⟩
  obtain ⟨p, ps, hp, d1, rb, pl, pa⟩ := h.at i hi
  have d2 : (w.setCell ⟨q, j, none⟩ (.int .u8 x)).cell? ⟨g, i * 2 + 1, none⟩ = some (.slice (some ⟨p, 0, none⟩) 64 64) := setc_else hne d1
  by_cases e : p = q
  · subst e
    refine ⟨p, bs.set j x, hp, d2, hq.set j x, by rw [List.length_set]; exact hl, fun y hy => ?_⟩
    rcases List.mem_or_eq_of_mem_set hy with hy | rfl
    · exact ha y hy
    · exact h0
  · exact ⟨p, ps, hp, d2, on.row rb e, pl, pa⟩
end Go.Proofs.YtgmmgklcndnehaaDoor
