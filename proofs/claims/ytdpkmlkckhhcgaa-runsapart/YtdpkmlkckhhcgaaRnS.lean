/- The document's turn, Mark, Give, Take, New. -/
import Derived.Test.YtdpkmlkckhhcgaaRnR
namespace Go.Proofs.Ytdpkmlkckhhcgaa
open Go.RowKit
set_option linter.unusedVariables false

theorem turn_step (f : Nat → Bool) (p i : Nat) (v : Bool) (h : p ≤ i) : (fun j => if j = i then v else turn f p (i - p) v j) = turn f p (i + 1 - p) v := by
  funext j
  simp only [turn]
  by_cases e : j = i
  · subst e; rw [if_pos rfl, if_pos (by omega)]
  · rw [if_neg e]
    by_cases h2 : p ≤ j ∧ j < p + (i - p)
    · rw [if_pos h2, if_pos (by omega)]
    · rw [if_neg h2, if_neg (by omega)]
theorem turn_none (f : Nat → Bool) (p : Nat) (v : Bool) : turn f p 0 v = f := by funext j; simp [turn]; omega

set_option maxHeartbeats 1000000 in
theorem rturn_any (mb mg n : Nat) (f : Nat → Bool) (x k : Int) (v : Bool) (w : World) (h : Ref w mb mg n f) (hn : n ≤ 65536) (hx : -9223372036854775808 ≤ x ∧ x ≤ 9223372036854775807) (hk : -9223372036854775808 ≤ k ∧ k ≤ 9223372036854775807) :
    Calls Try.prog 35 #[.pointer (some ⟨mb, 0, none⟩), .int .i64 x, .int .i64 k, .bool v] w fun e w' => ∃ r f', e = .returned (.int .i64 r) ∧ TurnR n f x k v r f' ∧ Ref w' mb mg n f' ∧ Only mg w w' := by
  have H : Hid (Ref w mb mg n f) := h
  clear h
  go_enter Try.func35, Try.ntmps35
  go_wp2_with fail
  refine (rall_any mb mg n f x k (!v) _ H.out hn hx hk).mono ?_
  rintro e w' ⟨rfl, ⟨hb, rfl⟩ | ⟨hb, ha, rfl⟩ | ⟨hb, ha, rfl⟩⟩
  · have TR : Hid (TurnR n f x k v 2 f) := .inl ⟨hb, rfl, rfl⟩
    clear hb
    go_wp2
    go_ret
    exact ⟨2, f, rfl, TR.out, H.out, Only.refl _ _⟩
  · have TR : Hid (TurnR n f x k v 9 f) := by unfold badE at hb; exact .inr (.inl ⟨by omega, by omega, by omega, ha, rfl, rfl⟩)
    clear hb ha
    go_wp2
    go_ret
    exact ⟨9, f, rfl, TR.out, H.out, Only.refl _ _⟩
  · have TR : Hid (TurnR n f x k v 0 (turn f x.toNat k.toNat v)) := by unfold badE at hb; exact .inr (.inr ⟨by omega, by omega, by omega, ha, rfl, rfl⟩)
    unfold badE at hb
    obtain ⟨p, rfl⟩ : ∃ p : Nat, x = p := ⟨x.toNat, by omega⟩
    obtain ⟨q, rfl⟩ : ∃ q : Nat, k = q := ⟨k.toNat, by omega⟩
    have hq1 : 1 ≤ q := by omega
    have hpq : p + q ≤ n := by omega
    simp only [Int.toNat_natCast] at TR ha
    have R0 : Hid (Ref w mb mg n (turn f p (p - p) v)) := by show Ref _ _ _ _ _; rw [Nat.sub_self, turn_none]; exact H.out
    clear ha hb hx hk
    go_wp2
    go_loopw [10] (fun iv wr => ∃ i : Nat, p ≤ i ∧ i ≤ p + q ∧ iv = .int .i64 (i : Nat) ∧ Ref wr mb mg n (turn f p (i - p) v) ∧ Only mg w wr) (fun iv _ => p + q - (intOf iv).toNat)
    case atStart => exact ⟨p, Nat.le_refl _, by omega, rfl, R0.out, Only.refl _ _⟩
    case round =>
      obtain ⟨i, hi1, hi2, rfl, hR, hO⟩ := hrel
      rename World => wr
      have HR : Hid (Ref wr mb mg n (turn f p (i - p) v)) := hR
      have HO : Hid (Only mg w wr) := hO
      have c0 := hR.cellB
      by_cases hlt : i < p + q
      · have c1 := hR.cell i (by omega)
        have z1 := hR.thawed i
        have hlt' : (i : Int) < (p : Int) + (q : Int) := by omega
        have hin : (i : Int) < (n : Int) := by omega
        have NR : Hid (Ref (wr.setCell ⟨mg, i, none⟩ (.bool v)) mb mg n (turn f p (i + 1 - p) v)) := by
          show Ref _ _ _ _ _
          rw [← turn_step f p i v hi1]; exact hR.set i v
        have NO : Hid (Only mg w (wr.setCell ⟨mg, i, none⟩ (.bool v))) := hO.trans (Only.set _ _ _ _)
        clear hR hO
        go_wp2
        go_roundw
        case rel => exact ⟨i + 1, by omega, by omega, by go_num, NR.out, NO.out⟩
        case measure => simp [intOf]; omega
      · obtain rfl : i = p + q := by omega
        have hge : ¬ (((p + q : Nat) : Int) < (p : Int) + (q : Int)) := by omega
        have FR : Hid (Ref wr mb mg n (turn f p q v)) := by
          have := hR
          rw [Nat.add_sub_cancel_left] at this
          exact this
        clear hR hO
        go_wp2
        go_ret
        first | exact ⟨0, turn f p q v, rfl, TR.out, FR.out, HO.out⟩ | exact ⟨0, rfl, turn f p q v, TR.out, FR.out, HO.out⟩

theorem rmark_any (mb mg n : Nat) (f : Nat → Bool) (x k : Int) (w : World) (h : Ref w mb mg n f) (hn : n ≤ 65536) (hx : -9223372036854775808 ≤ x ∧ x ≤ 9223372036854775807) (hk : -9223372036854775808 ≤ k ∧ k ≤ 9223372036854775807) :
    Calls Try.prog 26 #[.pointer (some ⟨mb, 0, none⟩), .int .i64 x, .int .i64 k] w fun e w' => ∃ r f', e = .returned (.int .i64 r) ∧ TurnR n f x k true r f' ∧ Ref w' mb mg n f' ∧ Only mg w w' := by
  have H : Hid (Ref w mb mg n f) := h
  clear h
  go_enter Try.func26, Try.ntmps26
  go_wp2_with (go_at_call 35; refine (rturn_any mb mg n f x k true _ H.out hn hx hk).mono ?_; rintro e w' ⟨r, f', rfl, h1, h2, h3⟩)
  go_ret
  exact ⟨r, f', rfl, h1, h2, h3⟩
theorem rgive_any (mb mg n : Nat) (f : Nat → Bool) (x k : Int) (w : World) (h : Ref w mb mg n f) (hn : n ≤ 65536) (hx : -9223372036854775808 ≤ x ∧ x ≤ 9223372036854775807) (hk : -9223372036854775808 ≤ k ∧ k ≤ 9223372036854775807) :
    Calls Try.prog 27 #[.pointer (some ⟨mb, 0, none⟩), .int .i64 x, .int .i64 k] w fun e w' => ∃ r f', e = .returned (.int .i64 r) ∧ TurnR n f x k false r f' ∧ Ref w' mb mg n f' ∧ Only mg w w' := by
  have H : Hid (Ref w mb mg n f) := h
  clear h
  go_enter Try.func27, Try.ntmps27
  go_wp2_with (go_at_call 35; refine (rturn_any mb mg n f x k false _ H.out hn hx hk).mono ?_; rintro e w' ⟨r, f', rfl, h1, h2, h3⟩)
  go_ret
  exact ⟨r, f', rfl, h1, h2, h3⟩

/-- Under way in Take: c free units right ahead of i. -/
structure Way (f : Nat → Bool) (K i c : Nat) : Prop where
  le : c ≤ i
  lt : c < K
  all : AllF f (i - c) c false
  max : c = i ∨ f (i - c - 1) = true
  no : ∀ q, q + K ≤ i → ¬ AllF f q K false
theorem Way.zero (f : Nat → Bool) {K : Nat} (h : 1 ≤ K) : Way f K 0 0 := ⟨Nat.le_refl _, by omega, fun i h1 h2 => by omega, .inl rfl, fun q hq => by omega⟩
theorem Way.taken {f : Nat → Bool} {K i c : Nat} (h : Way f K i c) (hf : f i = true) : Way f K (i + 1) 0 := by
  have := h.lt
  refine ⟨by omega, by omega, fun j h1 h2 => by omega, .inr (by simpa using hf), fun q hq ha => ?_⟩
  by_cases e : q + K = i + 1
  · have := ha i (by omega) (by omega); rw [hf] at this; cases this
  · exact h.no q (by omega) ha
theorem Way.all' {f : Nat → Bool} {K i c : Nat} (h : Way f K i c) (hf : f i = false) : AllF f (i + 1 - (c + 1)) (c + 1) false := fun j h1 h2 => by
  have := h.le
  by_cases e : j = i
  · rw [e]; exact hf
  · exact h.all j (by omega) (by omega)
theorem Way.free {f : Nat → Bool} {K i c : Nat} (h : Way f K i c) (hf : f i = false) (hne : c + 1 ≠ K) : Way f K (i + 1) (c + 1) := by
  have h1 := h.le
  have h2 := h.lt
  refine ⟨by omega, by omega, h.all' hf, ?_, fun q hq ha => ?_⟩
  · rcases h.max with e | e
    · left; omega
    · right; rw [show i + 1 - (c + 1) - 1 = i - c - 1 from by omega]; exact e
  · by_cases e : q + K = i + 1
    · rcases h.max with e2 | e2
      · omega
      · have := ha (i - c - 1) (by omega) (by omega); rw [e2] at this; cases this
    · exact h.no q (by omega) ha
theorem Way.found {f : Nat → Bool} {n K i c : Nat} (h : Way f K i c) (hf : f i = false) (he : c + 1 = K) (hi : i < n) : TakeIs n f K (some (i + 1 - K)) := by
  have h1 := h.le
  refine ⟨by omega, ?_, fun q hq => h.no q (by omega)⟩
  have := h.all' hf
  rwa [he] at this

set_option maxHeartbeats 2000000 in
theorem rtake_any (mb mg n : Nat) (f : Nat → Bool) (k : Int) (w : World) (h : Ref w mb mg n f) (hn : n ≤ 65536) (hk : -9223372036854775808 ≤ k ∧ k ≤ 9223372036854775807) :
    Calls Try.prog 25 #[.pointer (some ⟨mb, 0, none⟩), .int .i64 k] w fun e w' => ∃ x r f', e = .returned (.tuple #[.int .i64 x, .int .i64 r]) ∧ TakeR n f k x r f' ∧ Ref w' mb mg n f' ∧ Only mg w w' := by
  have H : Hid (Ref w mb mg n f) := h
  have c0 := h.cellB
  clear h
  by_cases h1 : k < 1
  · have TR : Hid (TakeR n f k 0 2 f) := .inl ⟨h1, rfl, rfl, rfl⟩
    go_enter Try.func25, Try.ntmps25
    go_wp2
    go_ret2
    exact ⟨0, 2, f, rfl, TR.out, H.out, Only.refl _ _⟩
  · obtain ⟨K, rfl⟩ : ∃ K : Nat, k = K := ⟨k.toNat, by omega⟩
    have hK1 : 1 ≤ K := by omega
    have W0 : Hid (Way f K 0 0) := Way.zero f hK1
    go_enter Try.func25, Try.ntmps25
    go_wp2
    go_loopw [6, 15] (fun cv iv wr => ∃ i c : Nat, i ≤ n ∧ iv = .int .i64 (i : Nat) ∧ cv = .int .i64 (c : Nat) ∧ Way f K i c ∧ w = wr) (fun _ iv _ => n - (intOf iv).toNat)
    case atStart => exact ⟨0, 0, Nat.zero_le _, rfl, rfl, W0.out, rfl⟩
    case round =>
      clear W0
      obtain ⟨i, c, hi, rfl, rfl, hW, rfl⟩ := hrel
      have HW : Hid (Way f K i c) := hW
      have hcl := hW.le
      have hck := hW.lt
      clear hW
      by_cases hlt : i < n
      · have c1 := H.out.cell i hlt
        have hlt' : (i : Int) < (n : Int) := by omega
        cases hf : f i
        · have HFI : Hid (f i = false) := hf
          rw [hf] at c1
          clear hf
          by_cases he : c + 1 = K
          · subst he
            have TS : Hid (TakeIs n f (c + 1) (some (i + 1 - (c + 1)))) := HW.out.found HFI.out rfl hlt
            obtain ⟨p, hp⟩ : ∃ p, i + 1 - (c + 1) = p := ⟨_, rfl⟩
            rw [hp] at TS
            have hpi : (i : Int) + 1 - ((c : Int) + 1) = (p : Int) := by omega
            have TR : Hid (TakeR n f ((c + 1 : Nat) : Int) (p : Nat) 0 (turn f p (c + 1) true)) := .inr (.inr ⟨by omega, p, by simpa using TS.out, rfl, rfl, by simp⟩)
            have UQ : Hid (∀ r f', TurnR n f (p : Nat) ((c + 1 : Nat) : Int) true r f' → r = 0 ∧ f' = turn f p (c + 1) true) := fun r f' ht => by
              have t2 : TurnR n f (p : Nat) ((c + 1 : Nat) : Int) true 0 (turn f p (c + 1) true) := .inr (.inr ⟨by omega, by omega, by have := TS.out.1; omega, by simpa using TS.out.2.1, rfl, by simp⟩)
              exact ht.one t2
            clear HW
            go_wp2_with fail
            rw [show ((c : Int) + 1) = ((c + 1 : Nat) : Int) from rfl]
            refine (rturn_any mb mg n f p ((c + 1 : Nat) : Int) true _ H.out hn (by omega) (by omega)).mono ?_
            rintro e w1 ⟨r, f', rfl, ht, hr, ho⟩
            obtain ⟨rfl, rfl⟩ := UQ.out r f' ht
            have RR : Hid (Ref w1 mb mg n (turn f p (c + 1) true)) := hr
            have OO : Hid (Only mg w w1) := ho
            clear ht hr ho
            go_wp2
            go_ret2
            exact ⟨p, 0, turn f p (c + 1) true, rfl, TR.out, RR.out, OO.out⟩
          · have NW : Hid (Way f K (i + 1) (c + 1)) := HW.out.free HFI.out he
            have hne : ¬ ((c : Int) + 1 = (K : Int)) := by omega
            clear HW
            go_wp2
            go_roundw
            case rel => exact ⟨i + 1, c + 1, by omega, by go_num, by go_num, NW.out, by first | rfl | trivial⟩
            case measure => simp [intOf]; omega
        · have NW : Hid (Way f K (i + 1) 0) := HW.out.taken hf
          rw [hf] at c1
          clear hf HW
          go_wp2
          go_roundw
          case rel => exact ⟨i + 1, 0, by omega, by go_num, rfl, NW.out, by first | rfl | trivial⟩
          case measure => simp [intOf]; omega
      · obtain rfl : i = n := by omega
        have TR : Hid (TakeR i f (K : Nat) 0 7 f) := .inr (.inl ⟨by omega, fun q hq => by have := HW.out.no q; simp at hq ⊢; exact this hq, rfl, rfl, rfl⟩)
        clear HW
        go_wp2
        go_ret2
        exact ⟨0, 7, f, rfl, TR.out, H.out, Only.refl _ _⟩
end Go.Proofs.Ytdpkmlkckhhcgaa
