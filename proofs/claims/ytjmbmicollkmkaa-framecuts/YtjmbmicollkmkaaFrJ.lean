/- What appended makes: the bytes of a frame behind a row of one's own. -/
import Derived.Test.YtjmbmicollkmkaaFrI
namespace Go.Proofs.Ytjmbmicollkmkaa
open Go.RowKit
set_option linter.unusedVariables false

theorem grown_refl (w : World) (row : Option Nat) : w.grownBy w row := ⟨rfl, rfl, rfl, Nat.le_refl _, fun _ _ _ => rfl⟩

/-- Bytes are appended to a slice of the call's own; just its own row may be another. -/
theorem wpList_appg {ops : Array Oper} {rest : List Oper} {o : Oper} {a : Act} {Q : Exit → Act → World → Prop} {w : World} (hgd : o.guard = none) (s x : Operand)
    (ho : o.op = .call { callee := .builtin .append, args := #[s, x], argTypes := #[22, 22] })
    (base : Nat) (hbase : base ≤ w.heap.size) (as0 : Option Addr) (L : List Int) (cs n : Nat) (hn : n = L.length) (hs : a.eval s = .slice as0 n cs) (hown : OwnsB w base as0 L cs)
    (ax : Option Addr) (l : List Int) (cx m : Nat) (hm : m = l.length) (hx : a.eval x = .slice ax m cx) (hB : IsB w ax l) (hnil : ax = none → l = [] ∧ cx = 0) (hlen : L.length + l.length ≤ 140737488355328) (X : List Int) (hX : L ++ l = X) (N : Nat) (hN : X.length = N)
    (h : ∀ a' cap' w', OwnsB w' base a' X cap' → w.grownBy w' (Value.slice as0 n cs).ownBlock → wpList Try.prog ops Q rest (a.put o.dst (.slice a' N cap')) w') :
    wpList Try.prog ops Q (o :: rest) a w := by
  subst hn hm hN hX
  obtain ⟨i0, hi, hz0, hz1, hz2⟩ := info_parts Try.info5
  rcases ax with _ | ad
  · obtain ⟨rfl, rfl⟩ := hnil rfl
    refine wpList_append_own_none hgd s x 22 ho base 5 i0 1 Try.underlying22 hi _ _ _ hs hown hx ?_
    have := h as0 cs w (by simpa using hown) (grown_refl _ _)
    simpa using this
  · refine wpList_append_own w hgd s x 22 ho base 5 i0 (.int .u8 0) 1 1 Try.underlying22 hi hz0 hz1 hz2 rfl (by decide) _ _ _ hs hown ad l.length cx (l.map (Value.int .u8)) hx (by simp) ?_ ?_ (by unfold maxLen; omega) (by omega) hbase ?_
    · intro j u hj
      have hjn : j < l.length := by
        have := (List.getElem?_eq_some_iff.1 hj).1
        simpa using this
      obtain ⟨_, rfl | ⟨b, off, e, _, hc⟩⟩ := hB
      · simp at hjn
      · cases e
        rw [addr_add, hc j hjn]
        have e : (l.map (Value.int .u8))[j]? = some (Value.int .u8 (l.getD j 0)) := by simp [List.getD, List.getElem?_eq_getElem hjn]
        rw [e] at hj
        exact hj
    · intro u hu; obtain ⟨x, _, rfl⟩ := List.mem_map.1 hu; rfl
    · intro v' w' h1 h2 h3
      obtain ⟨a', cap', rfl⟩ := owns_form h1
      have := h a' cap' w' (by simpa [OwnsB] using h1) h2
      simpa using this

theorem ownsB_some {w : World} {base cap : Nat} {a : Option Addr} {l : List Int} (h : OwnsB w base a l cap) (hl : 0 < l.length) : ∃ g, a = some ⟨g, 0, none⟩ := by
  obtain ⟨_, ⟨h1, h2⟩ | ⟨g, c', cur, h1, _⟩⟩ := h
  · omega
  · cases h1; exact ⟨g, rfl⟩

/-- A frame in a box. -/
def Boxed (w : World) (g : Nat) (k : Int) (a : Option Addr) (n cap : Nat) : Prop := w.heap[g]? = some (.cells #[.int .i64 k, .slice a n cap] 29 (0, 0))

theorem Boxed.cell0 {w : World} {g n cap : Nat} {k : Int} {a : Option Addr} (h : Boxed w g k a n cap) : w.cell? ⟨g, 0, none⟩ = some (.int .i64 k) := by simp [World.cell?, show w.heap[g]? = _ from h]
theorem Boxed.cell1 {w : World} {g n cap : Nat} {k : Int} {a : Option Addr} (h : Boxed w g k a n cap) : w.cell? ⟨g, 1, none⟩ = some (.slice a n cap) := by simp [World.cell?, show w.heap[g]? = _ from h]

/-- A box is no row of bytes. -/
theorem Boxed.apart {w : World} {g n cap base cs : Nat} {k : Int} {a as0 : Option Addr} {L : List Int} (h : Boxed w g k a n cap) (ho : OwnsB w base as0 L cs) : some g ≠ (Value.slice as0 L.length cs).ownBlock := by
  intro e
  obtain ⟨_, ⟨h1, h2⟩ | ⟨g', c', cur, h1, hg, h2, _⟩⟩ := ho
  · rw [h1] at e; simp [Value.ownBlock] at e
  · rw [h1] at e
    simp [Value.ownBlock] at e
    subst e
    have h' : w.heap[g]? = _ := h
    rw [h'] at h2
    simp at h2

theorem Boxed.grown {w w' : World} {g n cap : Nat} {k : Int} {a : Option Addr} {row : Option Nat} (h : Boxed w g k a n cap) (hg : w.grownBy w' row) (hne : some g ≠ row) : Boxed w' g k a n cap := by
  show w'.heap[g]? = _
  rw [hg.block g (Array.getElem?_eq_some_iff.1 h).1 hne]; exact h

theorem Boxed.keep {w w' : World} {g n cap : Nat} {k : Int} {a : Option Addr} (h : Boxed w g k a n cap) (hb : Below w.heap.size w w') : Boxed w' g k a n cap := by
  show w'.heap[g]? = _
  rw [hb.block g (Array.getElem?_eq_some_iff.1 h).1]; exact h

theorem boxed_new (w : World) (k : Int) (a : Option Addr) (n cap : Nat) : Boxed (w.alloc (.cells #[.int .i64 k, .slice a n cap] 29)) w.heap.size k a n cap := heap_alloc_new w _

theorem isB_new (w : World) (l : List Int) (fr : Nat × Nat) (hl : AllB l) : IsB (w.alloc (.cells (l.map (Value.int .u8)).toArray 5 fr)) (some ⟨w.heap.size, 0, none⟩) l := by
  refine ⟨hl, .inr ⟨w.heap.size, 0, rfl, by simp, ?_⟩⟩
  intro i hi
  rw [Nat.zero_add, cell_of_row _ _ i _ _ _ (heap_alloc_new _ _)]
  simp [hi, List.getD]

/-- Put at a width that counts. -/
theorem put_at (n : Int) (K : Nat) (hK : K ≤ 8) (h0 : 0 ≤ n) (h1 : n ≤ 18446744073709551615) (w : World) :
    Calls Try.prog 35 #[.int .u64 n, .int .i64 (K : Int)] w fun e w' => e = .returned (.slice (some ⟨w.heap.size, 0, none⟩) K K) ∧ IsB w' (some ⟨w.heap.size, 0, none⟩) (putL K n) ∧ Below w.heap.size w w' := by
  have hc : clampW (K : Int) = K := by unfold clampW; rw [if_neg (by omega), if_neg (by omega)]
  refine (put_any n K h0 h1 w).mono ?_
  rw [hc, Int.toNat_natCast]
  rintro e w' ⟨rfl, rfl⟩
  exact ⟨rfl, isB_new _ _ _ (putL_allB K n), (Below.refl _ w).alloc (Nat.le_refl _) _⟩

theorem putw2 (n : Int) (h0 : 0 ≤ n) (h1 : n ≤ 18446744073709551615) (w : World) :
    Calls Try.prog 35 #[.int .u64 n, .int .i64 2] w fun e w' => e = .returned (.slice (some ⟨w.heap.size, 0, none⟩) 2 2) ∧ IsB w' (some ⟨w.heap.size, 0, none⟩) (putL 2 n) ∧ Below w.heap.size w w' := put_at n 2 (by decide) h0 h1 w
theorem putw4 (n : Int) (h0 : 0 ≤ n) (h1 : n ≤ 18446744073709551615) (w : World) :
    Calls Try.prog 35 #[.int .u64 n, .int .i64 4] w fun e w' => e = .returned (.slice (some ⟨w.heap.size, 0, none⟩) 4 4) ∧ IsB w' (some ⟨w.heap.size, 0, none⟩) (putL 4 n) ∧ Below w.heap.size w w' := put_at n 4 (by decide) h0 h1 w

theorem own_ge' {w : World} {base cap n : Nat} {a : Option Addr} {l : List Int} (hn : n = l.length) (h : OwnsB w base a l cap) : ∀ k, (Value.slice a n cap).ownBlock = some k → base ≤ k := by
  subst hn; exact own_ge h
theorem Boxed.apart' {w : World} {g n cap base cs m : Nat} {k : Int} {a as0 : Option Addr} {L : List Int} (hm : m = L.length) (h : Boxed w g k a n cap) (ho : OwnsB w base as0 L cs) : some g ≠ (Value.slice as0 m cs).ownBlock := by
  subst hm; exact h.apart ho

set_option maxHeartbeats 2000000 in
theorem appended_any (k : Int) (a ab : Option Addr) (L body : List Int) (cap cb n nb base : Nat) (w : World) (hn : n = L.length) (hnb : nb = body.length) (hown : OwnsB w base a L cap) (hLb : AllB L) (hbase : base ≤ w.heap.size)
    (hbody : ∀ w', Below base w w' → IsB w' ab body) (hnil : ab = none → body = [] ∧ cb = 0) (h0 : 1 ≤ k) (h1 : k ≤ 255) (hb : body.length ≤ 65535) (hbig : L.length ≤ 70000000000000) :
    Calls Try.prog 30 #[.slice a n cap, .agg #[.int .i64 k, .slice ab nb cb]] w fun e w' => ∃ a' cap', e = .returned (.slice a' (L ++ frL k body).length cap') ∧ OwnsB w' base a' (L ++ frL k body) cap' ∧ Below base w w' := by
  subst hn hnb
  have HB : Hid (∀ w', Below base w w' → IsB w' ab body) := hbody
  have HN : Hid (ab = none → body = [] ∧ cb = 0) := hnil
  have k1 : IntKind.u8.wrap k = k := by rw [IntKind.wrap_u8]; omega
  have hbl : AllB body := (hbody w (Below.refl _ _)).1
  have hhb : AllB (headL k body) := headL_allB (by omega) h1 hbl
  have hkb : AllB [k] := by intro x hx; simp at hx; omega
  have sb := sumI_bd hhb
  have HL : Hid (AllB L) := hLb
  have HH : Hid (AllB (headL k body)) := hhb
  have HK : Hid (AllB [k]) := hkb
  have N3 : Hid ((L ++ headL k body).length = L.length + 3 + body.length) := by show _ = _; rw [List.length_append, headL_len]; omega
  have N4 : Hid ((L ++ frL k body).length = L.length + 3 + body.length + 4) := by show _ = _; rw [List.length_append, frL_len]; omega
  have J3 : Hid (L ++ [k] ++ putL 2 body.length ++ body = L ++ headL k body) := by show _ = _; simp [headL]
  have J4 : Hid (L ++ headL k body ++ putL 4 (sumI (headL k body)) = L ++ frL k body) := by show _ = _; rw [frL, List.append_assoc]
  have D3 : Hid ((L ++ headL k body).drop L.length = headL k body) := List.drop_left
  have L2 : Hid ((putL 2 body.length).length = 2) := putL_len _ _
  have X0 : Hid (Boxed (w.alloc (.cells #[.int .i64 k, .slice ab body.length cb] 29)) w.heap.size k ab body.length cb) := boxed_new _ _ _ _ _
  have q0 := X0.out.cell0
  have q1 := X0.out.cell1
  have O1 : Hid (OwnsB (w.alloc (.cells #[.int .i64 k, .slice ab body.length cb] 29)) base a L cap) := World.ownsRow.alloc hown _
  have B1 : Hid (Below base w (w.alloc (.cells #[.int .i64 k, .slice ab body.length cb] 29))) := (Below.refl _ w).alloc hbase _
  have NB : Hid (IsB ((w.alloc (.cells #[.int .i64 k, .slice ab body.length cb] 29)).alloc (.cells #[.int .u8 k] 5)) (some ⟨w.heap.size + 1, 0, none⟩) [k]) := by
    have := isB_new (w.alloc (.cells #[.int .i64 k, .slice ab body.length cb] 29)) [k] (0, 0) HK.out
    rwa [show (w.alloc (.cells #[.int .i64 k, .slice ab body.length cb] 29)).heap.size = w.heap.size + 1 from by simp] at this
  obtain ⟨s, hs⟩ : ∃ s, sumI (headL k body) = s := ⟨_, rfl⟩
  have ES : Hid (sumI (headL k body) = s) := hs
  rw [hs] at sb J4
  have hl4 : (putL 4 s).length = 4 := putL_len _ _
  have L4 : Hid ((putL 4 s).length = 4) := hl4
  clear hown hbody hnil hLb hbl hhb hkb hs hl4
  go_enter Try.func30, Try.ntmps30
  go_wp2_with (at_builtin; refine wpList_appg rfl _ _ rfl base (by simp; omega) _ L cap _ rfl rfl (World.ownsRow.alloc O1.out _) _ [k] _ _ rfl rfl NB.out (fun h => by cases h) (by simp; omega) (L ++ [k]) rfl (L.length + 1) (by simp) ?_; intro a2 c2 w2 o2 g2; have X2 : Hid (Boxed w2 w.heap.size k ab body.length cb) := (X0.out.keep ((Below.refl _ _).alloc (Nat.le_refl _) _)).grown g2 (Boxed.apart' rfl X0.out O1.out); have B2 : Hid (Below base w w2) := (B1.out.alloc (by simp; omega) _).grown g2 (by simp; omega) (own_ge' rfl O1.out); have O2 : Hid (OwnsB w2 base a2 (L ++ [k]) c2) := o2; have q2 := X2.out.cell1; clear o2 g2 q0 q1)
  refine (putw2 (body.length : Int) (by omega) (by omega) _).mono ?_
  rintro e w3 ⟨rfl, i3, b3⟩
  have X3 : Hid (Boxed w3 w.heap.size k ab body.length cb) := X2.out.keep b3
  have O3 : Hid (OwnsB w3 base a2 (L ++ [k]) c2) := O2.out.keep b3
  have B3 : Hid (Below base w w3) := B2.out.trans (b3.mono (by have := B2.out.size; omega))
  have I3 : Hid (IsB w3 (some ⟨w2.heap.size, 0, none⟩) (putL 2 body.length)) := i3
  have hz3 : base ≤ w3.heap.size := by have := B3.out.size; omega
  clear i3 b3 q2
  go_wp2_with (first
    | (at_builtin; refine wpList_appg rfl _ _ rfl base hz3 _ (L ++ [k]) c2 _ (by simp) rfl O3.out _ (putL 2 body.length) _ _ L2.out.symm rfl I3.out (fun h => by cases h) (by have := L2.out; simp; omega) (L ++ [k] ++ putL 2 body.length) rfl (L.length + 3) (by have := L2.out; simp; omega) ?_; intro a4 c4 w4 o4 g4; have X4 : Hid (Boxed w4 w.heap.size k ab body.length cb) := X3.out.grown g4 (Boxed.apart' (by simp) X3.out O3.out); have B4 : Hid (Below base w w4) := B3.out.grown g4 hz3 (own_ge' (by simp) O3.out); have O4 : Hid (OwnsB w4 base a4 (L ++ [k] ++ putL 2 body.length) c4) := o4; have q4 := X4.out.cell1; have hz4 : base ≤ w4.heap.size := (by have := B4.out.size; omega); clear o4 g4)
    | (at_builtin; refine wpList_appg rfl _ _ rfl base hz4 _ (L ++ [k] ++ putL 2 body.length) c4 _ (by have := L2.out; simp; omega) rfl O4.out ab body cb _ rfl rfl (HB.out w4 B4.out) HN.out (by have := L2.out; simp; omega) (L ++ headL k body) J3.out (L.length + 3 + body.length) N3.out ?_; intro a5 c5 w5 o5 g5; have B5 : Hid (Below base w w5) := B4.out.grown g5 hz4 (own_ge' (by have := L2.out; simp; omega) O4.out); obtain ⟨r5, rfl⟩ := ownsB_some o5 (by rw [N3.out]; omega); have O5 : Hid (OwnsB w5 base (some ⟨r5, 0, none⟩) (L ++ headL k body) c5) := o5; obtain ⟨l5, m5, _⟩ := ownsB_isL o5; rw [N3.out] at l5; have n5 : ¬ c5 = L.length := (by omega); have hz5 : base ≤ w5.heap.size := (by have := B5.out.size; omega); clear o5 g5))
  have I5 : Hid (IsB w5 (some ⟨r5, L.length, none⟩) (headL k body)) := by
    have h6 := IsB.part (ownsB_isB (HL.out.append HH.out) O5.out) L.length (headL k body).length
    rwa [D3.out, List.take_length, Nat.zero_add] at h6
  refine (sum_of _ _ _ (headL k body) _ (by rw [headL_len]; omega) I5.out (by rw [headL_len]; unfold maxLen; omega)).mono ?_
  rw [ES.out]
  rintro e w6 ⟨rfl, rfl⟩
  go_wp2_with fail
  refine (putw4 s (by omega) (by omega) _).mono ?_
  rintro e w7 ⟨rfl, i7, b7⟩
  have O7 : Hid (OwnsB w7 base (some ⟨r5, 0, none⟩) (L ++ headL k body) c5) := O5.out.keep b7
  have B7 : Hid (Below base w w7) := B5.out.trans (b7.mono hz5)
  have I7 : Hid (IsB w7 (some ⟨w5.heap.size, 0, none⟩) (putL 4 s)) := i7
  have hz7 : base ≤ w7.heap.size := by have := B7.out.size; omega
  clear i7 b7
  go_wp2_with (at_builtin; refine wpList_appg rfl _ _ rfl base hz7 _ (L ++ headL k body) c5 _ N3.out.symm rfl O7.out _ (putL 4 s) _ _ L4.out.symm rfl I7.out (fun h => by cases h) (by have := L4.out; have := N3.out; omega) (L ++ frL k body) J4.out (L.length + 3 + body.length + 4) N4.out ?_; intro a8 c8 w8 o8 g8)
  go_ret
  rw [N4.out]
  exact ⟨a8, c8, rfl, o8, B7.out.grown g8 hz7 (own_ge' N3.out.symm O7.out)⟩
end Go.Proofs.Ytjmbmicollkmkaa
