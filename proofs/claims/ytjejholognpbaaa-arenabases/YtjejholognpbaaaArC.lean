/- The document's numbers as bytes: what Width, Get, Put, Copy and Same of the reference answer. -/
import Derived.Test.YtjejholognpbaaaArB
namespace Go.Proofs.Ytjejholognpbaaa
open Go.RowKit
set_option linter.unusedVariables false

/-- What is owned, its value written out. -/
def OwnsB (w : World) (base : Nat) (a : Option Addr) (l : List Int) (cap : Nat) : Prop := w.ownsRow base 5 1 (.slice a l.length cap) l.length (l.map (Value.int .u8))

theorem owns_form {w : World} {base n : Nat} {v : Value} {xs : List Value} (h : w.ownsRow base 5 1 v n xs) : ∃ a cap, v = .slice a n cap := by
  obtain ⟨_, ⟨rfl, rfl⟩ | ⟨g, c', cur, rfl, _⟩⟩ := h
  · exact ⟨_, _, rfl⟩
  · exact ⟨_, _, rfl⟩

theorem ownsB_isB {w : World} {base : Nat} {a : Option Addr} {l : List Int} {cap : Nat} (hb : ∀ x ∈ l, 0 ≤ x ∧ x ≤ 255) (h : OwnsB w base a l cap) : IsB w a l := by
  refine ⟨hb, ?_⟩
  have h' := h
  obtain ⟨_, ⟨h1, h2⟩ | ⟨g, c', cur, h1, _, h2, _⟩⟩ := h
  · exact .inl (List.eq_nil_of_length_eq_zero h2)
  · cases h1
    refine .inr ⟨g, 0, rfl, (Array.getElem?_eq_some_iff.1 h2).1, ?_⟩
    intro i hi
    have := World.ownsRow.cellAt h' i (by omega)
    rw [Nat.zero_add, this]
    simp [List.getD, hi]

theorem own_ge {w : World} {base cap : Nat} {a : Option Addr} {l : List Int} (h : OwnsB w base a l cap) : ∀ k, (Value.slice a l.length cap).ownBlock = some k → base ≤ k := by
  intro k hk
  obtain ⟨_, ⟨h1, h2⟩ | ⟨g, c', cur, h1, hg, h2, _⟩⟩ := h
  · rw [h1] at hk; simp [Value.ownBlock] at hk
  · rw [h1] at hk
    simp [Value.ownBlock] at hk
    omega

theorem ownsB_made (w : World) : OwnsB (w.alloc (.cells #[] 5)) w.heap.size (some ⟨w.heap.size, 0, none⟩) [] 0 :=
  World.ownsRow_made w #[] 0 (Nat.le_refl _) (Nat.zero_le _) rfl

theorem ownsB_keep {w w' : World} {base cap : Nat} {a : Option Addr} {l : List Int} (h : OwnsB w base a l cap) (hb : Below w.heap.size w w') : OwnsB w' base a l cap := by
  obtain ⟨h0, h1 | ⟨g, c', cur, h1, hg, h2, h3⟩⟩ := h
  · exact ⟨h0, .inl h1⟩
  · exact ⟨h0, .inr ⟨g, c', cur, h1, hg, by rw [hb.block g (Array.getElem?_eq_some_iff.1 h2).1]; exact h2, h3⟩⟩

/-- Bytes are appended to a slice of the call's own, whatever they are: none, or some. -/
theorem wpList_app {ops : Array Oper} {rest : List Oper} {o : Oper} {a : Act} {Q : Exit → Act → World → Prop} {w : World} (hgd : o.guard = none) (s x : Operand)
    (ho : o.op = .call { callee := .builtin .append, args := #[s, x], argTypes := #[35, 35] })
    (base : Nat) (hbase : base ≤ w.heap.size) (as0 : Option Addr) (L : List Int) (cs : Nat) (hs : a.eval s = .slice as0 L.length cs) (hown : OwnsB w base as0 L cs)
    (ax : Option Addr) (l : List Int) (cx : Nat) (hx : a.eval x = .slice ax l.length cx) (hB : IsB w ax l) (hnil : ax = none → l = [] ∧ cx = 0) (hlen : L.length + l.length ≤ 140737488355328)
    (h : ∀ a' cap' w', OwnsB w' base a' (L ++ l) cap' → Below base w w' → wpList Try.prog ops Q rest (a.put o.dst (.slice a' (L ++ l).length cap')) w') :
    wpList Try.prog ops Q (o :: rest) a w := by
  obtain ⟨i0, hi, hz0, hz1, hz2⟩ := info_parts Try.info5
  rcases ax with _ | ad
  · obtain ⟨rfl, rfl⟩ := hnil rfl
    refine wpList_append_own_none hgd s x 35 ho base 5 i0 1 Try.underlying35 hi _ _ _ hs hown hx ?_
    have := h as0 cs w (by simpa using hown) (Below.refl _ _)
    simpa using this
  · refine wpList_append_own w hgd s x 35 ho base 5 i0 (.int .u8 0) 1 1 Try.underlying35 hi hz0 hz1 hz2 rfl (by decide) _ _ _ hs hown ad l.length cx (l.map (Value.int .u8)) hx (by simp) ?_ ?_ (by unfold maxLen; omega) (by omega) hbase ?_
    · intro j u hj
      have hjn : j < l.length := by
        have := (List.getElem?_eq_some_iff.1 hj).1
        simpa using this
      obtain ⟨_, rfl | ⟨b, off, e, _, hc⟩⟩ := hB
      · simp at hjn
      · cases e
        rw [addr_add, hc j hjn]
        have e : (l.map (Value.int .u8))[j]? = some (Value.int .u8 (l.getD j 0)) := by simp [List.getD, List.getElem?_eq_getElem hjn]
        rw [e] at hj
        exact hj
    · intro u hu; obtain ⟨x, _, rfl⟩ := List.mem_map.1 hu; rfl
    · intro v' w' h1 h2 h3
      obtain ⟨a', cap', rfl⟩ := owns_form h1
      have := h a' cap' w' (by simpa [OwnsB] using h1) ((Below.refl _ w).grown h2 hbase (own_ge hown))
      simpa using this

theorem ownsB_isL {w : World} {base : Nat} {a : Option Addr} {l : List Int} {cap : Nat} (h : OwnsB w base a l cap) : l.length ≤ cap ∧ cap ≤ maxLen ∧ (a = none → l = [] ∧ cap = 0) := by
  obtain ⟨_, ⟨h1, h2⟩ | ⟨g, c', cur, h1, hg, h2, h3, h4, _⟩⟩ := h
  · simp only [Value.slice.injEq] at h1
    obtain ⟨rfl, h1, rfl⟩ := h1
    exact ⟨by omega, Nat.zero_le _, fun _ => ⟨List.eq_nil_of_length_eq_zero h2, rfl⟩⟩
  · cases h1
    exact ⟨h3, h4, by simp⟩

/-- An own row of bytes whose blocks stay. -/
theorem OwnsB.keep {w w' : World} {base cap : Nat} {a : Option Addr} {l : List Int} (h : OwnsB w base a l cap) (hb : Below w.heap.size w w') : OwnsB w' base a l cap := ownsB_keep h hb

theorem OwnsB.drewN {w : World} {base cap : Nat} {a : Option Addr} {l : List Int} (h : OwnsB w base a l cap) (m : Nat) : OwnsB (w.drewN m) base a l cap := h

/-- A new row of one's own, from a base below. -/
theorem OwnsB.mono {w : World} {base base' cap : Nat} {a : Option Addr} {l : List Int} (h : OwnsB w base a l cap) (hb : base' ≤ base) : OwnsB w base' a l cap := by
  obtain ⟨h0, h1 | ⟨g, c', cur, h1, hg, h2⟩⟩ := h
  · exact ⟨h0, .inl h1⟩
  · exact ⟨h0, .inr ⟨g, c', cur, h1, by omega, h2⟩⟩

theorem copy_none (cap : Nat) (w : World) :
    Calls Try.prog 29 #[.slice none 0 cap] w fun e w' => e = .returned (.slice (some ⟨w.heap.size, 0, none⟩) 0 0) ∧ w' = w.alloc (.cells #[] 5) := by
  go_enter Try.func29, Try.ntmps29
  go_wp2
  go_ret
  exact ⟨rfl, rfl⟩

set_option maxHeartbeats 2000000 in
theorem copy_at (a : Addr) (n c : Nat) (xs : List Int) (w : World) (hx : xs.length = n) (hbig : n ≤ 140737488355328) (hc : ∀ i, i < n → w.cell? (a.add i) = some (.int .u8 (xs.getD i 0))) :
    Calls Try.prog 29 #[.slice (some a) n c] w fun e w' => ∃ v', e = .returned v' ∧ w'.ownsRow w.heap.size 5 1 v' n (xs.map (Value.int .u8)) ∧ v' ≠ .slice none 0 0 ∧ Below w.heap.size w w' := by
  obtain ⟨i0, hi, hz0, hz1, hz2⟩ := info_parts Try.info5
  have A : Hid (∀ i, i < n → w.cell? (a.add i) = some (.int .u8 (xs.getD i 0))) := hc
  clear hc
  go_enter Try.func29, Try.ntmps29
  go_wp2_with (at_builtin; refine wpList_append_own _ rfl _ _ 35 rfl w.heap.size 5 i0 (.int .u8 0) 1 1 Try.underlying35 hi hz0 hz1 hz2 rfl (by decide) _ _ _ rfl (World.ownsRow_made w #[] 0 (Nat.le_refl _) (Nat.zero_le _) rfl) a n c (xs.map (Value.int .u8)) rfl ?qc1 ?qc2 ?qc3 ?qc4 ?qc5 ?qc6 ?_)
  case qc1 => simp; omega
  case qc2 =>
    intro j u hj
    have hjn : j < n := by
      have := (List.getElem?_eq_some_iff.1 hj).1
      simp at this
      omega
    refine Lib.cell?_alloc_some _ ?_
    rw [A.out j hjn]
    have e : (xs.map (Value.int .u8))[j]? = some (Value.int .u8 (xs.getD j 0)) := by simp [List.getD, List.getElem?_eq_getElem (show j < xs.length by omega)]
    rw [e] at hj
    exact hj
  case qc3 => intro u hu; obtain ⟨x, _, rfl⟩ := List.mem_map.1 hu; rfl
  case qc4 => unfold maxLen; omega
  case qc5 => omega
  case qc6 => simp
  intro v' w1 hown hgrow hnil
  go_wp2
  go_ret
  refine ⟨v', rfl, by simpa using hown, ?_, ?_⟩
  · first | exact hnil | (intro e; exact absurd (hnil.1 e).1 (by simp))
  · exact ((Below.refl _ w).alloc (Nat.le_refl _) _).grown hgrow (by simp) (by intro k hk; simp [Value.ownBlock] at hk; omega)

/-- A copy lies in a block of its own, of nothing too. -/
theorem copy_any (a : Option Addr) (cap n : Nat) (l : List Int) (w : World) (hn : n = l.length) (h : IsB w a l) (hm : l.length ≤ 140737488355328) :
    Calls Try.prog 29 #[.slice a n cap] w fun e w' => ∃ g cap', e = .returned (.slice (some ⟨g, 0, none⟩) l.length cap') ∧ OwnsB w' w.heap.size (some ⟨g, 0, none⟩) l cap' ∧ Below w.heap.size w w' := by
  subst hn
  rcases a with _ | ad
  · obtain ⟨_, rfl | ⟨b, off, e, _⟩⟩ := h
    · refine (copy_none cap w).mono ?_
      rintro e w' ⟨rfl, rfl⟩
      exact ⟨w.heap.size, 0, rfl, ownsB_made w, (Below.refl _ _).alloc (Nat.le_refl _) _⟩
    · cases e
  · have hc : ∀ i, i < l.length → w.cell? (ad.add i) = some (.int .u8 (l.getD i 0)) := by
      intro i hi
      obtain ⟨_, rfl | ⟨b, off, e, _, hc⟩⟩ := h
      · simp at hi
      · cases e
        rw [addr_add]; exact hc i hi
    refine (copy_at ad l.length cap l w rfl hm hc).mono ?_
    rintro e w' ⟨v, rfl, hown, hv, hbel⟩
    have ho := hown
    obtain ⟨_, ⟨h1, _⟩ | ⟨g, c', cur, rfl, _⟩⟩ := hown
    · exact absurd h1 hv
    · exact ⟨g, c', rfl, ho, hbel⟩

theorem bs_inj {l l' : List Int} (h : AllB l) (h' : AllB l') (e : bs l = bs l') : l = l' := by
  unfold bs at e
  simp only [ByteArray.mk.injEq] at e
  have e' := congrArg Array.toList e
  simp only at e'
  have key : ∀ (a b : List Int), AllB a → AllB b → a.map (fun x => UInt8.ofNat x.toNat) = b.map (fun x => UInt8.ofNat x.toNat) → a = b := by
    intro a
    induction a with
    | nil => intro b _ _ hab; cases b with
      | nil => rfl
      | cons y b => simp at hab
    | cons x a ih => intro b ha hb hab; cases b with
      | nil => simp at hab
      | cons y b =>
        simp only [List.map_cons, List.cons.injEq] at hab
        obtain ⟨h1, h2⟩ := hab
        have hx := ha x (by simp)
        have hy := hb y (by simp)
        have h3 := congrArg UInt8.toNat h1
        simp only [UInt8.toNat_ofNat'] at h3
        rw [ih b (fun z hz => ha z (by simp [hz])) (fun z hz => hb z (by simp [hz])) h2, show x = y from by omega]
  exact key l l' h h' e'

theorem ba_loop (s : ByteArray) (n : Nat) : ∀ (i : Nat) (r : List UInt8), s.size - i = n → ByteArray.toList.loop s i r = r.reverse ++ s.data.toList.drop i := by
  induction n with
  | zero =>
    intro i r h
    unfold ByteArray.toList.loop
    rw [if_neg (by omega), List.drop_eq_nil_of_le (by have : s.data.toList.length = s.size := Array.length_toList
                                                      omega)]
    simp
  | succ n ih =>
    intro i r h
    have hl : s.data.toList.length = s.size := Array.length_toList
    have hi : i < s.data.toList.length := by omega
    unfold ByteArray.toList.loop
    rw [if_pos (by omega), ih _ _ (by omega), List.drop_eq_getElem_cons hi]
    have hg : s.get! i = s.data.toList[i] := by
      have : i < s.data.size := by rw [← Array.length_toList]; exact hi
      show s.data[i]! = _
      rw [getElem!_pos s.data i this, Array.getElem_toList]
    simp [hg]

theorem ba_inj {s t : ByteArray} (h : s.toList = t.toList) : s = t := by
  unfold ByteArray.toList at h
  rw [ba_loop s _ 0 [] rfl, ba_loop t _ 0 [] rfl] at h
  simp only [List.reverse_nil, List.nil_append, List.drop_zero] at h
  cases s; cases t
  simp only [ByteArray.mk.injEq]
  exact Array.toList_inj.1 h

theorem same_any (a a' : Option Addr) (n n' cap cap' : Nat) (l l' : List Int) (w : World) (h : IsB w a l) (h' : IsB w a' l') (hn : n = l.length) (hn' : n' = l'.length) :
    Calls Try.prog 15 #[.slice a n cap, .slice a' n' cap'] w fun e w' => e = .returned (.bool (decide (l = l'))) ∧ w = w' := by
  subst hn hn'
  have k1 := conv_run w a cap l h
  have k2 := conv_run w a' cap' l' h'
  have hb1 : AllB l := h.1
  have hb2 : AllB l' := h'.1
  clear h h'
  by_cases e : l = l'
  · subst e
    clear hb1 hb2
    go_enter Try.func15, Try.ntmps15
    go_wp2
    go_ret
    exact ⟨by simp, rfl⟩
  · have hne : bs l ≠ bs l' := fun h => e (bs_inj hb1 hb2 h)
    clear hb1 hb2
    go_enter Try.func15, Try.ntmps15
    go_wp2
    all_goals (go_ret; exact ⟨by simp [e]; exact fun h => hne (ba_inj h), rfl⟩)

theorem same_true (a a' : Option Addr) (n n' cap cap' : Nat) (l : List Int) (w : World) (h : IsB w a l) (h' : IsB w a' l) (hn : n = l.length) (hn' : n' = l.length) :
    Calls Try.prog 15 #[.slice a n cap, .slice a' n' cap'] w fun e w' => e = .returned (.bool true) ∧ w = w' := by
  refine (same_any a a' n n' cap cap' l l w h h' hn hn').mono ?_
  rintro e w' ⟨rfl, rfl⟩
  exact ⟨by simp, rfl⟩
theorem width_any (n : Int) (w : World) :
    Calls Try.prog 45 #[.int .i64 n] w fun e w' => e = .returned (.int .i64 (clampW n)) ∧ w = w' := by
  go_enter Try.func45, Try.ntmps45
  go_wp2
  all_goals (go_ret; refine ⟨congrArg Ending.returned (congrArg (Value.int IntKind.i64) ?_), rfl⟩; unfold clampW; split <;> (try split) <;> omega)

theorem rget_step (l : List Int) (k : Nat) (hk : k < (l.take 8).length) : getL ((l.take 8).drop (k + 1)) * 256 + (l.take 8)[k] = getL ((l.take 8).drop k) := by
  rw [List.drop_eq_getElem_cons hk, getL]
  omega

theorem rget_bd (l : List Int) (k : Nat) (hb : ∀ x ∈ l, 0 ≤ x ∧ x ≤ 255) : 0 ≤ getL ((l.take 8).drop (k + 1)) ∧ getL ((l.take 8).drop (k + 1)) ≤ 72057594037927935 := by
  have hb' : ∀ x ∈ (l.take 8).drop (k + 1), 0 ≤ x ∧ x ≤ 255 := fun x hx => hb x (List.mem_of_mem_take (List.mem_of_mem_drop hx))
  refine ⟨getL_nonneg _ hb', ?_⟩
  have h1 := getL_lt _ hb'
  have h2 : ((l.take 8).drop (k + 1)).length ≤ 7 := by rw [List.length_drop]; have := List.length_take_le 8 l; omega
  have h3 := p256_mono _ _ h2
  have h4 : (256 : Int) ^ 7 = 72057594037927936 := by decide
  omega

set_option maxHeartbeats 1000000 in
theorem rget_any (a : Option Addr) (cap : Nat) (l : List Int) (w : World) (h : IsB w a l) (hm : l.length ≤ maxLen) :
    Calls Try.prog 37 #[.slice a l.length cap] w fun e w' => e = .returned (.int .u64 (getL (l.take 8))) ∧ w = w' := by
  obtain ⟨hb, rfl | ⟨b, off, rfl, hsz, hc⟩⟩ := h
  · go_enter Try.func37, Try.ntmps37
    go_wp2
    refine wp_loop_rounds 1 ?_
    rw [rounds_succ]
    go_wp2
    go_ret
    exact ⟨rfl, rfl⟩
  · unfold maxLen at hm
    have h8 : (l.take 8).length ≤ 8 := List.length_take_le 8 l
    have hl8 : (l.take 8).length ≤ l.length := by rw [List.length_take]; omega
    have E8 : Hid ((l.take 8).length = min 8 l.length) := List.length_take
    go_enter Try.func37, Try.ntmps37
    go_wp2
    all_goals
      go_loop [3, 4] (fun n i => ∃ k : Nat, k ≤ (l.take 8).length ∧ i = .int .i64 ((k : Int) - 1) ∧ n = .int .u64 (getL ((l.take 8).drop k))) (fun _ i => (intOf i + 1).toNat)
      case atStart =>
        refine ⟨(l.take 8).length, Nat.le_refl _, ?_, ?_⟩
        · refine congrArg (Value.int IntKind.i64) ?_
          rw [E8.out]
          omega
        · rw [List.drop_length]; rfl
      case round =>
        obtain ⟨k, hk, rfl, rfl⟩ := hrel
        rcases k with _ | k
        · go_wp2
          go_ret
          exact ⟨rfl, rfl⟩
        · have hkl : k < (l.take 8).length := hk
          have hkl' : k < l.length := by omega
          have hst : Hid (getL ((l.take 8).drop (k + 1)) * 256 + (l.take 8)[k] = getL ((l.take 8).drop k)) := rget_step l k hkl
          obtain ⟨n0, n1⟩ := rget_bd l k hb
          have hx := hb l[k] (List.getElem_mem hkl')
          have hcell := hc k hkl'
          have ek : ((k + 1 : Nat) : Int) - 1 = (k : Int) := by omega
          rw [ek]
          generalize hN : getL ((l.take 8).drop (k + 1)) = N at *
          go_wp2
          go_round
          case rel => exact ⟨k, by omega, rfl, congrArg (Value.int IntKind.u64) (by rw [← hst.out]; simp)⟩
          case measure => simp [intOf]
def lenOf : Value → Nat
  | .slice _ k _ => k
  | _ => 0

/-- How far the bytes have come. -/
def PutAt (n : Int) (K B : Nat) (w wr : World) (a : Option Addr) (cap : Nat) (L : List Int) (m : Int) : Prop :=
  L.length ≤ K ∧ putL K n = L ++ putL (K - L.length) m ∧ 0 ≤ m ∧ m ≤ 18446744073709551615 ∧ OwnsB wr B a L cap ∧ Below B w wr

set_option maxHeartbeats 1000000 in
theorem rput_is (n width : Int) (K : Nat) (hK : clampW width = K) (hK8 : K ≤ 8) (h0 : 0 ≤ n) (h1 : n ≤ 18446744073709551615) (w : World) :
    Calls Try.prog 38 #[.int .u64 n, .int .i64 width] w fun e w' => ∃ a cap, e = .returned (.slice a K cap) ∧ IsB w' a (putL K n) ∧ (∀ ad, a = some ad → w.heap.size ≤ ad.block) ∧ Below w.heap.size w w' := by
  obtain ⟨i0, hi, hz0, hz1, hz2⟩ := info_parts Try.info5
  have HK : Hid (clampW width = K) := hK
  clear hK
  go_enter Try.func38, Try.ntmps38
  go_wp2
  go_loopw [0, 5] (fun t v wr => ∃ (a : Option Addr) (cap : Nat) (L : List Int) (m : Int), t = .int .u64 m ∧ v = .slice a L.length cap ∧ PutAt n K w.heap.size w wr a cap L m) (fun _ v _ => 8 - lenOf v)
  case atStart => exact ⟨none, 0, [], n, rfl, rfl, Nat.zero_le _, rfl, h0, h1, World.ownsRow_nil _ _ _ _, Below.refl _ _⟩
  case round =>
    obtain ⟨a, cap, L, m, rfl, rfl, hL, hx, m0, m1, hown, hnx⟩ := hrel
    have HX : Hid (putL K n = L ++ putL (K - L.length) m) := hx
    clear hx
    by_cases hlt : L.length < K
    · go_wp2_with (first
        | (go_at_call 45; refine (width_any width _).mono ?_; rintro e w' ⟨rfl, rfl⟩; rw [HK.out])
        | (at_builtin; refine wpList_append_own _ rfl (.tmp 11) (.tmp 15) 35 rfl w.heap.size 5 i0 (.int .u8 0) 1 1 Try.underlying35 hi hz0 hz1 hz2 rfl (by decide) (.slice a L.length cap) L.length _ rfl (World.ownsRow.alloc hown _) ⟨wr.heap.size, 0, none⟩ 1 1 [.int .u8 (m % 256)] rfl rfl (by intro t u ht; match t, ht with | 0, ht => simp at ht; subst ht; simp [Addr.add]) (by intro u hu; simp at hu; subst hu; rfl) (by unfold maxLen; omega) (by omega) (by have := hnx.size; simp; omega) ?_; intro v1 w1 hown1 hgrow1 hnil1))
      obtain ⟨a1, cap1, rfl⟩ := owns_form hown1
      have hp : putL (K - L.length) m = m % 256 :: putL (K - (L.length + 1)) (m / 256) := by
        rw [show K - L.length = (K - (L.length + 1)) + 1 from by omega, putL]
      have R : PutAt n K w.heap.size w w1 a1 cap1 (L ++ [m % 256]) (m / 256) :=
        ⟨by simp; omega, by rw [HX.out, hp]; simp, by omega, by omega, by simpa [OwnsB] using hown1, (hnx.alloc hnx.size _).grown hgrow1 (by simp; have := hnx.size; omega) (own_ge hown)⟩
      go_roundw
      case rel => exact ⟨a1, cap1, L ++ [m % 256], m / 256, rfl, by simp, R⟩
      case measure => simp [lenOf]; omega
    · have hx : putL K n = L := by rw [HX.out, show K - L.length = 0 from by omega]; simp [putL]
      have hlen : L.length = K := by omega
      have HQ : Hid (putL K n = L) := hx
      clear hx
      go_wp2_with (go_at_call 45; refine (width_any width _).mono ?_; rintro e w' ⟨rfl, rfl⟩; rw [HK.out])
      go_ret
      refine ⟨a, cap, rfl, ?_, (fun ad e => by cases e; exact own_ge hown _ rfl), hnx⟩
      rw [HQ.out]
      exact ownsB_isB (by rw [← HQ.out]; exact putL_byte K n) hown

end Go.Proofs.Ytjejholognpbaaa
