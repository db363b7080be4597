/- Slices of bytes of one's own; what the document's Copy and Same answer. -/
import Derived.Test.YtofmicbhheebiaaDoorGzAD
import Derived.Test.YtofmicbhheebiaaDoorGzAB
import Derived.WalkKit
import Derived.WalkLawsBesides
import Derived.Below
namespace Go.Proofs.YtofmicbhheebiaaDoor
open Go.ChangeShapes Go.WideShapes Go.ChangeAt Go.RowKit
set_option linter.unusedVariables false
set_option maxRecDepth 4000

theorem Tryd.info5 : (Tryd.prog.info? 5).map (fun i => (i.zero, i.size, i.bytes)) = some (some (.int .u8 0), 1, 1) := by kernel_rfl

/-- What is owned, its value written out. -/
def OwnsB (w : World) (base : Nat) (a : Option Addr) (l : List Int) (cap : Nat) : Prop := w.ownsRow base 5 1 (.slice a l.length cap) l.length (l.map (Value.int .u8))

theorem owns_form {w : World} {base n : Nat} {v : Value} {xs : List Value} (h : w.ownsRow base 5 1 v n xs) : ∃ a cap, v = .slice a n cap := by
  obtain ⟨_, ⟨rfl, rfl⟩ | ⟨g, c', cur, rfl, _⟩⟩ := h
  · exact ⟨_, _, rfl⟩
  · exact ⟨_, _, rfl⟩

theorem ownsB_isB {w : World} {base : Nat} {a : Option Addr} {l : List Int} {cap : Nat} (hb : ∀ x ∈ l, 0 ≤ x ∧ x ≤ 255) (h : OwnsB w base a l cap) : IsB w a l := by
  refine ⟨hb, ?_⟩
  have h' := h
  obtain ⟨_, ⟨h1, h2⟩ | ⟨g, c', cur, h1, _, h2, _⟩⟩ := h
  · exact .inl (List.eq_nil_of_length_eq_zero h2)
  · cases h1
    refine .inr ⟨g, 0, rfl, (Array.getElem?_eq_some_iff.1 h2).1, ?_⟩
    intro i hi
    have := World.ownsRow.cellAt h' i (by omega)
    rw [Nat.zero_add, this]
    simp [List.getD, hi]

theorem own_ge {w : World} {base cap : Nat} {a : Option Addr} {l : List Int} (h : OwnsB w base a l cap) : ∀ k, (Value.slice a l.length cap).ownBlock = some k → base ≤ k := by
  intro k hk
  obtain ⟨_, ⟨h1, h2⟩ | ⟨g, c', cur, h1, hg, h2, _⟩⟩ := h
  · rw [h1] at hk; simp [Value.ownBlock] at hk
  · rw [h1] at hk
    simp [Value.ownBlock] at hk
    omega

theorem ownsB_keep {w w' : World} {base cap : Nat} {a : Option Addr} {l : List Int} (h : OwnsB w base a l cap) (hb : Below w.heap.size w w') : OwnsB w' base a l cap := by
  obtain ⟨h0, h1 | ⟨g, c', cur, h1, hg, h2, h3⟩⟩ := h
  · exact ⟨h0, .inl h1⟩
  · exact ⟨h0, .inr ⟨g, c', cur, h1, hg, by rw [hb.block g (Array.getElem?_eq_some_iff.1 h2).1]; exact h2, h3⟩⟩

/-- Bytes are appended to a slice of the call's own, whatever they are: none, or some. -/
theorem wpList_app {ops : Array Oper} {rest : List Oper} {o : Oper} {a : Act} {Q : Exit → Act → World → Prop} {w : World} (hgd : o.guard = none) (s x : Operand)
    (ho : o.op = .call { callee := .builtin .append, args := #[s, x], argTypes := #[22, 22] })
    (base : Nat) (hbase : base ≤ w.heap.size) (as0 : Option Addr) (L : List Int) (cs : Nat) (hs : a.eval s = .slice as0 L.length cs) (hown : OwnsB w base as0 L cs)
    (ax : Option Addr) (l : List Int) (cx : Nat) (hx : a.eval x = .slice ax l.length cx) (hB : IsB w ax l) (hnil : ax = none → l = [] ∧ cx = 0) (hlen : L.length + l.length ≤ 140737488355328)
    (h : ∀ a' cap' w', OwnsB w' base a' (L ++ l) cap' → Below base w w' → wpList Tryd.prog ops Q rest (a.put o.dst (.slice a' (L ++ l).length cap')) w') :
    wpList Tryd.prog ops Q (o :: rest) a w := by
  obtain ⟨i0, hi, hz0, hz1, hz2⟩ := info_parts Tryd.info5
  rcases ax with _ | ad
  · obtain ⟨rfl, rfl⟩ := hnil rfl
    refine wpList_append_own_none hgd s x 22 ho base 5 i0 1 Tryd.underlying22 hi _ _ _ hs hown hx ?_
    have := h as0 cs w (by simpa using hown) (Below.refl _ _)
    simpa using this
  · refine wpList_append_own w hgd s x 22 ho base 5 i0 (.int .u8 0) 1 1 Tryd.underlying22 hi hz0 hz1 hz2 rfl (by decide) _ _ _ hs hown ad l.length cx (l.map (Value.int .u8)) hx (by simp) ?_ ?_ (by unfold maxLen; omega) (by omega) hbase ?_
    · intro j u hj
      have hjn : j < l.length := by
        have := (List.getElem?_eq_some_iff.1 hj).1
        simpa using this
      obtain ⟨_, rfl | ⟨b, off, e, _, hc⟩⟩ := hB
      · simp at hjn
      · cases e
        rw [addr_add, hc j hjn]
        have e : (l.map (Value.int .u8))[j]? = some (Value.int .u8 (l.getD j 0)) := by simp [List.getD, List.getElem?_eq_getElem hjn]
        rw [e] at hj
        exact hj
    · intro u hu; obtain ⟨x, _, rfl⟩ := List.mem_map.1 hu; rfl
    · intro v' w' h1 h2 h3
      obtain ⟨a', cap', rfl⟩ := owns_form h1
      have := h a' cap' w' (by simpa [OwnsB] using h1) ((Below.refl _ w).grown h2 hbase (own_ge hown))
      simpa using this

/-- An own row of bytes whose blocks stay. -/
theorem OwnsB.keep {w w' : World} {base cap : Nat} {a : Option Addr} {l : List Int} (h : OwnsB w base a l cap) (hb : Below w.heap.size w w') : OwnsB w' base a l cap := ownsB_keep h hb

theorem OwnsB.drewN {w : World} {base cap : Nat} {a : Option Addr} {l : List Int} (h : OwnsB w base a l cap) (m : Nat) : OwnsB (w.drewN m) base a l cap := h

/-- A new row of one's own, from a base below. -/
theorem OwnsB.mono {w : World} {base base' cap : Nat} {a : Option Addr} {l : List Int} (h : OwnsB w base a l cap) (hb : base' ≤ base) : OwnsB w base' a l cap := by
  obtain ⟨h0, h1 | ⟨g, c', cur, h1, hg, h2⟩⟩ := h
  · exact ⟨h0, .inl h1⟩
  · exact ⟨h0, .inr ⟨g, c', cur, h1, by omega, h2⟩⟩

/-- Bytes as a string. -/
def bs (l : List Int) : ByteArray := ⟨(l.map (fun x => UInt8.ofNat x.toNat)).toArray⟩

theorem conv_run (w : World) (a : Option Addr) (cap : Nat) (l : List Int) (h : IsB w a l) :
    (convert 22 9 (.slice a l.length cap)).run Tryd.prog w = .ok (.string (bs l)) w := by
  obtain ⟨hb, hl⟩ := h
  rcases a with _ | ad
  · rcases hl with rfl | ⟨b, off, e, _⟩
    · rw [run_convert_bytes_string w 22 9 5 none _ cap Tryd.underlying22 Tryd.underlying5 Tryd.underlying9]
      simp [Conv.bytesToString]
      rfl
    · cases e
  · have := run_convert_bytes_back (P := Tryd.prog) w 22 9 5 ad cap (l.map (fun x => UInt8.ofNat x.toNat)) Tryd.underlying22 Tryd.underlying5 Tryd.underlying9 (by
      intro j hj
      have hj' : j < l.length := by simpa using hj
      have hx := hb l[j] (List.getElem_mem hj')
      rcases hl with rfl | ⟨b, off, e, _, hc⟩
      · simp at hj'
      · cases e
        rw [addr_add, hc j hj']
        have e1 : (l[j].toNat % 256 : Nat) = l[j].toNat := by omega
        simp [List.getD, hj', e1, Int.toNat_of_nonneg hx.1])
    rw [List.length_map] at this
    exact this

theorem bs_inj {l l' : List Int} (h : AllB l) (h' : AllB l') (e : bs l = bs l') : l = l' := by
  unfold bs at e
  simp only [ByteArray.mk.injEq] at e
  have e' := congrArg Array.toList e
  simp only at e'
  have key : ∀ (a b : List Int), AllB a → AllB b → a.map (fun x => UInt8.ofNat x.toNat) = b.map (fun x => UInt8.ofNat x.toNat) → a = b := by
    intro a
    induction a with
    | nil => intro b _ _ hab; cases b with
      | nil => rfl
      | cons y b => simp at hab
    | cons x a ih => intro b ha hb hab; cases b with
      | nil => simp at hab
      | cons y b =>
        simp only [List.map_cons, List.cons.injEq] at hab
        obtain ⟨h1, h2⟩ := hab
        have hx := ha x (by simp)
        have hy := hb y (by simp)
        have h3 := congrArg UInt8.toNat h1
        simp only [UInt8.toNat_ofNat'] at h3
        rw [ih b (fun z hz => ha z (by simp [hz])) (fun z hz => hb z (by simp [hz])) h2, show x = y from by omega]
  exact key l l' h h' e'

theorem ba_loop (s : ByteArray) (n : Nat) : ∀ (i : Nat) (r : List UInt8), s.size - i = n → ByteArray.toList.loop s i r = r.reverse ++ s.data.toList.drop i := by
  induction n with
  | zero =>
    intro i r h
    unfold ByteArray.toList.loop
    rw [if_neg (by omega), List.drop_eq_nil_of_le (by have : s.data.toList.length = s.size := Array.length_toList
                                                      omega)]
    simp
  | succ n ih =>
    intro i r h
    have hl : s.data.toList.length = s.size := Array.length_toList
    have hi : i < s.data.toList.length := by omega
    unfold ByteArray.toList.loop
    rw [if_pos (by omega), ih _ _ (by omega), List.drop_eq_getElem_cons hi]
    have hg : s.get! i = s.data.toList[i] := by
      have : i < s.data.size := by rw [← Array.length_toList]; exact hi
      show s.data[i]! = _
      rw [getElem!_pos s.data i this, Array.getElem_toList]
    simp [hg]

theorem ba_inj {s t : ByteArray} (h : s.toList = t.toList) : s = t := by
  unfold ByteArray.toList at h
  rw [ba_loop s _ 0 [] rfl, ba_loop t _ 0 [] rfl] at h
  simp only [List.reverse_nil, List.nil_append, List.drop_zero] at h
  cases s; cases t
  simp only [ByteArray.mk.injEq]
  exact Array.toList_inj.1 h

theorem same_any (a a' : Option Addr) (n n' cap cap' : Nat) (l l' : List Int) (w : World) (h : IsB w a l) (h' : IsB w a' l') (hn : n = l.length) (hn' : n' = l'.length) :
    Calls Tryd.prog 47 #[.slice a n cap, .slice a' n' cap'] w fun e w' => e = .returned (.bool (decide (l = l'))) ∧ w = w' := by
  subst hn hn'
  have k1 := conv_run w a cap l h
  have k2 := conv_run w a' cap' l' h'
  have hb1 : AllB l := h.1
  have hb2 : AllB l' := h'.1
  clear h h'
  by_cases e : l = l'
  · subst e
    clear hb1 hb2
    go_enter Tryd.func47, Tryd.ntmps47
    go_wp2
    go_ret
    exact ⟨by simp, rfl⟩
  · have hne : bs l ≠ bs l' := fun h => e (bs_inj hb1 hb2 h)
    clear hb1 hb2
    go_enter Tryd.func47, Tryd.ntmps47
    go_wp2
    all_goals (go_ret; exact ⟨by simp [e]; exact fun h => hne (ba_inj h), rfl⟩)

end Go.Proofs.YtofmicbhheebiaaDoor

/- CnA: out of FrA. -/
set_option linter.unusedVariables false
set_option maxRecDepth 4000
set_option maxRecDepth 4000
namespace Go.Proofs.YtofmicbhheebiaaDoor
open Go.RowKit

theorem within_any (n : Int) (w : World) :
    Calls Tryd.prog 57 #[.int .i64 n] w fun e w' => e = .returned (.int .i64 (clampW n)) ∧ w = w' := by
  go_enter Tryd.func57, Tryd.ntmps57
  go_wp2
  all_goals (go_ret; refine ⟨congrArg Ending.returned (congrArg (Value.int IntKind.i64) ?_), rfl⟩; unfold clampW; split <;> (try split) <;> omega)

theorem get_any (a : Option Addr) (cap : Nat) (l : List Int) (w : World) (h : IsB w a l) (hm : l.length ≤ maxLen) :
    Calls Tryd.prog 60 #[.slice a l.length cap] w fun e w' => e = .returned (.int .u64 (getL (l.take 8))) ∧ w = w' := by
  obtain ⟨hb, rfl | ⟨b, off, rfl, hsz, hc⟩⟩ := h
  · go_enter Tryd.func60, Tryd.ntmps60
    go_wp2
    refine wp_loop_rounds 1 ?_
    rw [rounds_succ]
    go_wp2
    go_ret
    exact ⟨rfl, rfl⟩
  · unfold maxLen at hm
    go_enter Tryd.func60, Tryd.ntmps60
    go_wp2
    all_goals
      go_loop [3, 8] (fun n i => ∃ k : Nat, k ≤ 8 ∧ k ≤ l.length ∧ i = .int .i64 k ∧ n = .int .u64 (getL (l.take k))) (fun _ i => 8 - (intOf i).toNat)
      case atStart => exact ⟨0, Nat.zero_le _, Nat.zero_le _, rfl, rfl⟩
      case round =>
        obtain ⟨k, hk8, hkl, rfl, rfl⟩ := hrel
        by_cases hlt : k < 8 ∧ k < l.length
        · obtain ⟨h8, hl⟩ := hlt
          have hcell := hc k hl
          have HG : Hid (bits BinOp.or IntKind.u64 (getL (l.take k)) (IntKind.u64.wrap (IntKind.u64.wrap l[k] * 2 ^ (8 * k))) = getL (l.take (k + 1))) := get_step l k hb h8 hl
          go_wp2
          go_round
          case rel => exact ⟨k + 1, by omega, by omega, by go_num, by rw [HG.out]⟩
          case measure => simp [intOf]; omega
        · have e8 : l.take 8 = l.take k := take_same l k hk8 hkl hlt
          have E8 : Hid (l.take 8 = l.take k) := e8
          clear e8
          go_wp2
          go_ret
          exact ⟨ret_int (by rw [E8.out]), rfl⟩
theorem IsB.drewN {w : World} {a : Option Addr} {l : List Int} (h : IsB w a l) (m : Nat) : IsB (w.drewN m) a l := h

theorem IsB.at {w : World} {b off : Nat} {l : List Int} (h : IsB w (some ⟨b, off, none⟩) l) (i : Nat) (hi : i < l.length) : w.cell? ⟨b, off + i, none⟩ = some (.int .u8 (l.getD i 0)) := by
  obtain ⟨_, rfl | ⟨b', off', e, hs, hc⟩⟩ := h
  · simp at hi
  · cases e
    exact hc i hi

/-- Get, its length and what it answers told apart. -/
theorem get_of (a : Option Addr) (cap n : Nat) (l : List Int) (v : Int) (w : World) (hn : n = l.length) (hv : getL (l.take 8) = v) (h : IsB w a l) (hm : l.length ≤ maxLen) :
    Calls Tryd.prog 60 #[.slice a n cap] w fun e w' => e = .returned (.int .u64 v) ∧ w = w' := by
  subst hn hv; exact get_any a cap l w h hm
end Go.Proofs.YtofmicbhheebiaaDoor
