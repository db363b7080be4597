/- The document's answers, going on: what Put, Var and Copy of the reference return. -/
import Derived.Test.YtdhamfhicdcdgaaNumRf
namespace Go.Proofs.Ytdhamfhicdcdgaa
open Go.RowKit
set_option linter.unusedVariables false

/-- What is owned, its value written out. -/
def OwnsB (w : World) (base : Nat) (a : Option Addr) (l : List Int) (cap : Nat) : Prop := w.ownsRow base 5 1 (.slice a l.length cap) l.length (l.map (Value.int .u8))

theorem owns_form {w : World} {base n : Nat} {v : Value} {xs : List Value} (h : w.ownsRow base 5 1 v n xs) : ∃ a cap, v = .slice a n cap := by
  obtain ⟨_, ⟨rfl, rfl⟩ | ⟨g, c', cur, rfl, _⟩⟩ := h
  · exact ⟨_, _, rfl⟩
  · exact ⟨_, _, rfl⟩

theorem ownsB_isB {w : World} {base : Nat} {a : Option Addr} {l : List Int} {cap : Nat} (hb : ∀ x ∈ l, 0 ≤ x ∧ x ≤ 255) (h : OwnsB w base a l cap) : IsB w a l := by
  refine ⟨hb, ?_⟩
  have h' := h
  obtain ⟨_, ⟨h1, h2⟩ | ⟨g, c', cur, h1, _, h2, _⟩⟩ := h
  · exact .inl (List.eq_nil_of_length_eq_zero h2)
  · cases h1
    refine .inr ⟨g, 0, rfl, (Array.getElem?_eq_some_iff.1 h2).1, ?_⟩
    intro i hi
    have := World.ownsRow.cellAt h' i (by omega)
    rw [Nat.zero_add, this]
    simp [List.getD, hi]

theorem own_ge {w : World} {base cap : Nat} {a : Option Addr} {l : List Int} (h : OwnsB w base a l cap) : ∀ k, (Value.slice a l.length cap).ownBlock = some k → base ≤ k := by
  intro k hk
  obtain ⟨_, ⟨h1, h2⟩ | ⟨g, c', cur, h1, hg, h2, _⟩⟩ := h
  · rw [h1] at hk; simp [Value.ownBlock] at hk
  · rw [h1] at hk
    simp [Value.ownBlock] at hk
    omega

def lenOf : Value → Nat
  | .slice _ k _ => k
  | _ => 0

/-- How far the bytes have come. -/
def PutAt (n : Int) (K B : Nat) (w wr : World) (a : Option Addr) (cap : Nat) (L : List Int) (m : Int) : Prop :=
  L.length ≤ K ∧ putL K n = L ++ putL (K - L.length) m ∧ 0 ≤ m ∧ m ≤ 18446744073709551615 ∧ OwnsB wr B a L cap ∧ Below B w wr

set_option maxHeartbeats 1000000 in
theorem rput_is (n width : Int) (K : Nat) (hK : clampW width = K) (hK8 : K ≤ 8) (h0 : 0 ≤ n) (h1 : n ≤ 18446744073709551615) (w : World) :
    Calls Try.prog 12 #[.int .u64 n, .int .i64 width] w fun e w' => ∃ a cap, e = .returned (.slice a K cap) ∧ IsB w' a (putL K n) ∧ Below w.heap.size w w' := by
  obtain ⟨i0, hi, hz0, hz1, hz2⟩ := info_parts Try.info5
  have HK : Hid (clampW width = K) := hK
  clear hK
  go_enter Try.func12, Try.ntmps12
  go_wp2
  go_loopw [0, 5] (fun t v wr => ∃ (a : Option Addr) (cap : Nat) (L : List Int) (m : Int), t = .int .u64 m ∧ v = .slice a L.length cap ∧ PutAt n K w.heap.size w wr a cap L m) (fun _ v _ => 8 - lenOf v)
  case atStart => exact ⟨none, 0, [], n, rfl, rfl, Nat.zero_le _, rfl, h0, h1, World.ownsRow_nil _ _ _ _, Below.refl _ _⟩
  case round =>
    obtain ⟨a, cap, L, m, rfl, rfl, hL, hx, m0, m1, hown, hnx⟩ := hrel
    have HX : Hid (putL K n = L ++ putL (K - L.length) m) := hx
    clear hx
    by_cases hlt : L.length < K
    · go_wp2_with (first
        | (go_at_call 36; refine (width_any width _).mono ?_; rintro e w' ⟨rfl, rfl⟩; rw [HK.out])
        | (at_builtin; refine wpList_append_own _ rfl (.tmp 11) (.tmp 15) 23 rfl w.heap.size 5 i0 (.int .u8 0) 1 1 Try.underlying23 hi hz0 hz1 hz2 rfl (by decide) (.slice a L.length cap) L.length _ rfl (World.ownsRow.alloc hown _) ⟨wr.heap.size, 0, none⟩ 1 1 [.int .u8 (m % 256)] rfl rfl (by intro t u ht; match t, ht with | 0, ht => simp at ht; subst ht; simp [Addr.add]) (by intro u hu; simp at hu; subst hu; rfl) (by unfold maxLen; omega) (by omega) (by have := hnx.size; simp; omega) ?_; intro v1 w1 hown1 hgrow1 hnil1))
      obtain ⟨a1, cap1, rfl⟩ := owns_form hown1
      have hp : putL (K - L.length) m = m % 256 :: putL (K - (L.length + 1)) (m / 256) := by
        rw [show K - L.length = (K - (L.length + 1)) + 1 from by omega, putL]
      have R : PutAt n K w.heap.size w w1 a1 cap1 (L ++ [m % 256]) (m / 256) :=
        ⟨by simp; omega, by rw [HX.out, hp]; simp, by omega, by omega, by simpa [OwnsB] using hown1, (hnx.alloc hnx.size _).grown hgrow1 (by simp; have := hnx.size; omega) (own_ge hown)⟩
      go_roundw
      case rel => exact ⟨a1, cap1, L ++ [m % 256], m / 256, rfl, by simp, R⟩
      case measure => simp [lenOf]; omega
    · have hx : putL K n = L := by rw [HX.out, show K - L.length = 0 from by omega]; simp [putL]
      have hlen : L.length = K := by omega
      have HQ : Hid (putL K n = L) := hx
      clear hx
      go_wp2_with (go_at_call 36; refine (width_any width _).mono ?_; rintro e w' ⟨rfl, rfl⟩; rw [HK.out])
      go_ret
      refine ⟨a, cap, rfl, ?_, hnx⟩
      rw [HQ.out]
      exact ownsB_isB (by rw [← HQ.out]; exact putL_byte K n) hown

def RVarAt (n : Int) (B : Nat) (w wr : World) (a : Option Addr) (cap f : Nat) (L : List Int) (m : Int) : Prop :=
  varL n = L ++ digs f m ∧ 0 ≤ m ∧ m ≤ 18446744073709551615 ∧ m < 128 ^ (f + 1) ∧ L.length + f = 9 ∧ OwnsB wr B a L cap ∧ Below B w wr

set_option maxHeartbeats 1000000 in
theorem rvarw_any (n : Int) (w : World) (h0 : 0 ≤ n) (h1 : n ≤ 18446744073709551615) :
    Calls Try.prog 15 #[.int .u64 n] w fun e w' => ∃ a cap, e = .returned (.slice a (varL n).length cap) ∧ OwnsB w' w.heap.size a (varL n) cap ∧ Below w.heap.size w w' := by
  obtain ⟨i0, hi, hz0, hz1, hz2⟩ := info_parts Try.info5
  go_enter Try.func15, Try.ntmps15
  go_wp2
  go_loopw [0, 3] (fun t v wr => ∃ (a : Option Addr) (cap f : Nat) (L : List Int) (m : Int), t = .int .u64 m ∧ v = .slice a L.length cap ∧ RVarAt n w.heap.size w wr a cap f L m) (fun t _ _ => (intOf t).toNat)
  case atStart => exact ⟨none, 0, 9, [], n, rfl, rfl, rfl, h0, h1, big10 n h1, rfl, World.ownsRow_nil _ _ _ _, Below.refl _ _⟩
  case round =>
    obtain ⟨a, cap, f, L, m, rfl, rfl, hx, m0, m1, hf, hLf, hown, hnx⟩ := hrel
    have HX : Hid (varL n = L ++ digs f m) := hx
    clear hx
    by_cases hlt : 128 ≤ m
    · go_wp2_with (at_builtin; refine wpList_append_own _ rfl (.tmp 6) (.tmp 11) 23 rfl w.heap.size 5 i0 (.int .u8 0) 1 1 Try.underlying23 hi hz0 hz1 hz2 rfl (by decide) (.slice a L.length cap) L.length _ rfl (World.ownsRow.alloc hown _) ⟨wr.heap.size, 0, none⟩ 1 1 [.int .u8 (m % 128 + 128)] rfl rfl (by intro t u ht; match t, ht with | 0, ht => simp at ht; subst ht; simp [Addr.add]) (by intro u hu; simp at hu; subst hu; rfl) (by unfold maxLen; omega) (by omega) (by have := hnx.size; simp; omega) ?_; intro v1 w1 hown1 hgrow1 hnil1)
      obtain ⟨a1, cap1, rfl⟩ := owns_form hown1
      obtain ⟨f', rfl, hd, hf'⟩ := digs_step f m hlt hf
      have R : RVarAt n w.heap.size w w1 a1 cap1 f' (L ++ [m % 128 + 128]) (m / 128) :=
        ⟨by rw [HX.out, hd]; simp, by omega, by omega, hf', by simp; omega, by simpa [OwnsB] using hown1, (hnx.alloc hnx.size _).grown hgrow1 (by simp; have := hnx.size; omega) (own_ge hown)⟩
      go_roundw
      case rel => exact ⟨a1, cap1, f', L ++ [m % 128 + 128], m / 128, rfl, by simp, R⟩
      case measure => simp [intOf]; omega
    · have hm : m < 128 := by omega
      go_wp2_with (at_builtin; refine wpList_append_own _ rfl (.tmp 15) (.tmp 18) 23 rfl w.heap.size 5 i0 (.int .u8 0) 1 1 Try.underlying23 hi hz0 hz1 hz2 rfl (by decide) (.slice a L.length cap) L.length _ rfl (World.ownsRow.alloc hown _) ⟨wr.heap.size, 0, none⟩ 1 1 [.int .u8 m] rfl rfl (by intro t u ht; match t, ht with | 0, ht => simp at ht; subst ht; simp [Addr.add]) (by intro u hu; simp at hu; subst hu; rfl) (by unfold maxLen; omega) (by omega) (by have := hnx.size; simp; omega) ?_; intro v1 w1 hown1 hgrow1 hnil1)
      obtain ⟨a1, cap1, hv⟩ := owns_form hown1
      have hd := digs_last f m hm
      have hx : varL n = L ++ [m] := by rw [HX.out, hd]
      have hlen : L.length + 1 = (varL n).length := by rw [hx]; simp
      have hb1 : Below w.heap.size w w1 := (hnx.alloc hnx.size _).grown hgrow1 (by simp; have := hnx.size; omega) (own_ge hown)
      rw [hv] at hown1 ⊢
      clear hgrow1 hnil1 hv
      have ho : OwnsB w1 w.heap.size a1 (varL n) cap1 := by rw [OwnsB, hx]; simpa using hown1
      have HL : Hid (L.length + 1 = (varL n).length) := hlen
      clear hx hlen hd hown1
      go_wp2
      go_ret
      exact ⟨a1, cap1, ret_slice HL.out, ho, hb1⟩

theorem copy_none (cap : Nat) (w : World) :
    Calls Try.prog 18 #[.slice none 0 cap] w fun e w' => e = .returned (.slice (some ⟨w.heap.size, 0, none⟩) 0 0) ∧ w' = w.alloc (.cells #[] 5) := by
  go_enter Try.func18, Try.ntmps18
  go_wp2
  go_ret
  exact ⟨rfl, rfl⟩

set_option maxHeartbeats 2000000 in
theorem copy_at (a : Addr) (n c : Nat) (xs : List Int) (w : World) (hx : xs.length = n) (hbig : n ≤ 140737488355328) (hc : ∀ i, i < n → w.cell? (a.add i) = some (.int .u8 (xs.getD i 0))) :
    Calls Try.prog 18 #[.slice (some a) n c] w fun e w' => ∃ v', e = .returned v' ∧ w'.ownsRow w.heap.size 5 1 v' n (xs.map (Value.int .u8)) ∧ v' ≠ .slice none 0 0 ∧ Below w.heap.size w w' := by
  obtain ⟨i0, hi, hz0, hz1, hz2⟩ := info_parts Try.info5
  have A : Hid (∀ i, i < n → w.cell? (a.add i) = some (.int .u8 (xs.getD i 0))) := hc
  clear hc
  go_enter Try.func18, Try.ntmps18
  go_wp2_with (at_builtin; refine wpList_append_own _ rfl _ _ 23 rfl w.heap.size 5 i0 (.int .u8 0) 1 1 Try.underlying23 hi hz0 hz1 hz2 rfl (by decide) _ _ _ rfl (World.ownsRow_made w #[] 0 (Nat.le_refl _) (Nat.zero_le _) rfl) a n c (xs.map (Value.int .u8)) rfl ?qc1 ?qc2 ?qc3 ?qc4 ?qc5 ?qc6 ?_)
  case qc1 => simp; omega
  case qc2 =>
    intro j u hj
    have hjn : j < n := by
      have := (List.getElem?_eq_some_iff.1 hj).1
      simp at this
      omega
    refine Lib.cell?_alloc_some _ ?_
    rw [A.out j hjn]
    have e : (xs.map (Value.int .u8))[j]? = some (Value.int .u8 (xs.getD j 0)) := by simp [List.getD, List.getElem?_eq_getElem (show j < xs.length by omega)]
    rw [e] at hj
    exact hj
  case qc3 => intro u hu; obtain ⟨x, _, rfl⟩ := List.mem_map.1 hu; rfl
  case qc4 => unfold maxLen; omega
  case qc5 => omega
  case qc6 => simp
  intro v' w1 hown hgrow hnil
  go_wp2
  go_ret
  refine ⟨v', rfl, by simpa using hown, ?_, ?_⟩
  · first | exact hnil | (intro e; exact absurd (hnil.1 e).1 (by simp))
  · exact ((Below.refl _ w).alloc (Nat.le_refl _) _).grown hgrow (by simp) (by intro k hk; simp [Value.ownBlock] at hk; omega)

/-- A copy lies in a block of its own. -/
theorem copy_any (a : Option Addr) (cap : Nat) (l : List Int) (w : World) (h : IsB w a l) (hm : l.length ≤ 140737488355328) :
    Calls Try.prog 18 #[.slice a l.length cap] w fun e w' => ∃ g cap', e = .returned (.slice (some ⟨g, 0, none⟩) l.length cap') ∧ w.heap.size ≤ g ∧ g < w'.heap.size ∧ l.length ≤ cap' ∧ cap' ≤ maxLen ∧ (∀ i, i < l.length → w'.cell? ⟨g, i, none⟩ = some (.int .u8 (l.getD i 0))) ∧ Below w.heap.size w w' := by
  rcases a with _ | ad
  · obtain ⟨_, rfl | ⟨b, off, e, _⟩⟩ := h
    · refine (copy_none cap w).mono ?_
      rintro e w' ⟨rfl, rfl⟩
      exact ⟨w.heap.size, 0, rfl, Nat.le_refl _, by simp, Nat.zero_le _, Nat.zero_le _, by simp, (Below.refl _ _).alloc (Nat.le_refl _) _⟩
    · cases e
  · have hc : ∀ i, i < l.length → w.cell? (ad.add i) = some (.int .u8 (l.getD i 0)) := by
      intro i hi
      obtain ⟨_, rfl | ⟨b, off, e, _, hc⟩⟩ := h
      · simp at hi
      · cases e
        rw [addr_add]; exact hc i hi
    refine (copy_at ad l.length cap l w rfl hm hc).mono ?_
    rintro e w' ⟨v, rfl, hown, hv, hbel⟩
    obtain ⟨g, c, rfl, hg1, hg2, hc1, hc2, hcell⟩ := owns_parts rfl hown hv
    exact ⟨g, c, rfl, hg1, hg2, hc1, hc2, hcell, hbel⟩
end Go.Proofs.Ytdhamfhicdcdgaa
