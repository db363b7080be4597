/- Plain mathematics of layer 21: manifests, their bytes, what bytes are read as; a torn manifest and a turned burst. -/
import Derived.Test.YtofmicbhheebiaaCnP
namespace Go.Proofs.Ytofmicbhheebiaa
set_option linter.unusedVariables false
set_option maxRecDepth 4000
set_option maxRecDepth 4000

/-- A manifest. -/
structure Mn where
  s : Int
  f : Int
  n : Int
def mnz : Mn := ⟨0, 0, 0⟩
def okM (m : Mn) : Bool := decide (1 ≤ m.s ∧ m.s ≤ 4294967295 ∧ 1 ≤ m.f ∧ m.f ≤ 65534 ∧ 8 ≤ m.n ∧ m.n ≤ 65542)
theorem okM_iff {m : Mn} : okM m = true ↔ 1 ≤ m.s ∧ m.s ≤ 4294967295 ∧ 1 ≤ m.f ∧ m.f ≤ 65534 ∧ 8 ≤ m.n ∧ m.n ≤ 65542 := by
  unfold okM; rw [decide_eq_true_eq]
/-- The bytes ahead of the sum. -/
def hdM (m : Mn) : List Int := putL 4 m.s ++ (putL 4 m.f ++ (putL 4 m.n ++ List.replicate 44 0))
def manM (m : Mn) : List Int := hdM m ++ (putL 4 (sumI (hdM m)) ++ putL 4 m.s)
def tldM (b : List Int) : Mn := ⟨getL (b.take 4), getL ((b.drop 4).take 4), getL ((b.drop 8).take 4)⟩
/-- Why bytes are no manifest. -/
def wrongM (b : List Int) : Int :=
  if b.length < 64 then 3 else if 64 < b.length then 6 else if b.take 4 ≠ b.drop 60 then 9
  else if getL ((b.drop 56).take 4) ≠ sumI (b.take 56) then 5 else if okM (tldM b) = true ∧ manM (tldM b) = b then 0 else 4
def rdM (b : List Int) : Mn := if wrongM b = 0 then tldM b else mnz

theorem hdM_len (m : Mn) : (hdM m).length = 56 := by simp [hdM, putL_len]
theorem manM_len (m : Mn) : (manM m).length = 64 := by simp [manM, hdM_len, putL_len]
theorem noughts_allB (n : Nat) : AllB (List.replicate n 0) := by
  intro x hx
  have := List.eq_of_mem_replicate hx
  omega
theorem hdM_allB (m : Mn) : AllB (hdM m) := (putL_allB _ _).append ((putL_allB _ _).append ((putL_allB _ _).append (noughts_allB _)))
theorem manM_allB (m : Mn) : AllB (manM m) := (hdM_allB m).append ((putL_allB _ _).append (putL_allB _ _))
theorem manM_first (m : Mn) : (manM m).take 4 = putL 4 m.s := by
  unfold manM hdM
  rw [List.append_assoc]
  exact List.take_left' (putL_len _ _)
theorem manM_last (m : Mn) : (manM m).drop 60 = putL 4 m.s := by
  unfold manM
  rw [← List.append_assoc]
  exact List.drop_left' (by simp [hdM_len, putL_len])
theorem manM_second (m : Mn) : ((manM m).drop 4).take 4 = putL 4 m.f := by
  unfold manM hdM
  rw [List.append_assoc, List.drop_left' (putL_len _ _), List.append_assoc]
  exact List.take_left' (putL_len _ _)
theorem manM_third (m : Mn) : ((manM m).drop 8).take 4 = putL 4 m.n := by
  have e : (manM m).drop 8 = ((manM m).drop 4).drop 4 := by rw [List.drop_drop]
  rw [e]
  unfold manM hdM
  rw [List.append_assoc, List.drop_left' (putL_len _ _), List.append_assoc, List.drop_left' (putL_len _ _), List.append_assoc]
  exact List.take_left' (putL_len _ _)
theorem manM_head (m : Mn) : (manM m).take 56 = hdM m := List.take_left' (hdM_len m)
theorem manM_sum (m : Mn) : ((manM m).drop 56).take 4 = putL 4 (sumI (hdM m)) := by
  unfold manM
  rw [List.drop_left' (hdM_len m)]
  exact List.take_left' (putL_len _ _)
theorem manM_told {m : Mn} (h : okM m = true) : tldM (manM m) = m := by
  obtain ⟨h1, h2, h3, h4, h5, h6⟩ := okM_iff.1 h
  have P : ((256 : Int) ^ 4) = 4294967296 := by decide
  unfold tldM
  rw [manM_first, manM_second, manM_third, getL_of_putL 4 _ (by omega) (by rw [P]; omega), getL_of_putL 4 _ (by omega) (by rw [P]; omega), getL_of_putL 4 _ (by omega) (by rw [P]; omega)]
theorem manM_right {m : Mn} (h : okM m = true) : wrongM (manM m) = 0 := by
  have P : ((256 : Int) ^ 4) = 4294967296 := by decide
  obtain ⟨s0, s1⟩ := sumI_bd (hdM_allB m)
  unfold wrongM
  rw [if_neg (by rw [manM_len]; omega), if_neg (by rw [manM_len]; omega), if_neg (by rw [manM_first, manM_last]; simp), if_neg (by rw [manM_sum, manM_head, getL_of_putL 4 _ s0 (by rw [P]; omega)]; simp), if_pos ⟨by rw [manM_told h]; exact h, by rw [manM_told h]⟩]
theorem manM_read {m : Mn} (h : okM m = true) : rdM (manM m) = m := by
  unfold rdM
  rw [if_pos (manM_right h), manM_told h]
theorem wrong_zero {b : List Int} (h : wrongM b = 0) : b.length = 64 ∧ okM (tldM b) = true ∧ manM (tldM b) = b := by
  unfold wrongM at h
  split at h
  · cases h
  split at h
  · cases h
  split at h
  · cases h
  split at h
  · cases h
  split at h
  · rename_i h1 h2 _ _ h3
    exact ⟨by omega, h3.1, h3.2⟩
  · cases h
theorem manM_inj {a b : Mn} (ha : okM a = true) (hb : okM b = true) (h : manM a = manM b) : a = b := by
  rw [← manM_told ha, h, manM_told hb]
theorem putL4_inj {a b : Int} (a0 : 0 ≤ a) (a1 : a ≤ 4294967295) (b0 : 0 ≤ b) (b1 : b ≤ 4294967295) (h : putL 4 a = putL 4 b) : a = b := by
  have P : ((256 : Int) ^ 4) = 4294967296 := by decide
  have := congrArg getL h
  rwa [getL_of_putL 4 _ a0 (by rw [P]; omega), getL_of_putL 4 _ b0 (by rw [P]; omega)] at this

/-- Noughts tell no manifest. -/
theorem zeros_wrong : wrongM (List.replicate 64 0) ≠ 0 := by
  intro h
  have := (wrong_zero h).2.1
  exact absurd this (by decide +kernel)

/-- A torn manifest is the one whole, or the other whole, or none. -/
theorem torn_law {a b : List Int} {so : Int} {m : Mn} {k : Nat} (hm : okM m = true) (hb : b = manM m) (ha : a.length = 64) (af : a.take 4 = putL 4 so) (al : a.drop 60 = putL 4 so) (s0 : 0 ≤ so) (s1 : so ≤ 4294967295) (hne : so ≠ m.s) (hk : k ≤ 64)
    (h : wrongM (b.take k ++ a.drop k) = 0) : b.take k ++ a.drop k = b ∨ b.take k ++ a.drop k = a := by
  have bl : b.length = 64 := by rw [hb]; exact manM_len m
  have bf : b.take 4 = putL 4 m.s := by rw [hb]; exact manM_first m
  have bz : b.drop 60 = putL 4 m.s := by rw [hb]; exact manM_last m
  obtain ⟨m0, m1, _⟩ := okM_iff.1 hm
  obtain ⟨_, _, e⟩ := wrong_zero h
  have ends : (b.take k ++ a.drop k).take 4 = (b.take k ++ a.drop k).drop 60 := by
    rw [← e, manM_first, manM_last]
  by_cases k4 : k < 4
  · right
    have e1 : (b.take k ++ a.drop k).drop 60 = a.drop 60 := by
      rw [List.drop_append, List.drop_eq_nil_of_le (by simp [bl]; omega), List.nil_append, List.drop_drop]
      congr 1
      simp [bl]; omega
    have e2 : (b.take k ++ a.drop k).drop 4 = a.drop 4 := by
      rw [List.drop_append, List.drop_eq_nil_of_le (by simp [bl]; omega), List.nil_append, List.drop_drop]
      congr 1
      simp [bl]; omega
    rw [e1, al, ← af] at ends
    rw [← List.take_append_drop 4 (b.take k ++ a.drop k), ends, e2, List.take_append_drop]
  · by_cases k60 : k ≤ 60
    · exfalso
      have e1 : (b.take k ++ a.drop k).take 4 = b.take 4 := by
        rw [List.take_append_of_le_length (by simp [bl]; omega), List.take_take, Nat.min_eq_left (by omega)]
      have e2 : (b.take k ++ a.drop k).drop 60 = a.drop 60 := by
        rw [List.drop_append, List.drop_eq_nil_of_le (by simp [bl]; omega), List.nil_append, List.drop_drop]
        congr 1
        simp [bl]; omega
      rw [e1, e2, bf, al] at ends
      exact hne (putL4_inj (by omega) (by omega) s0 s1 ends).symm
    · left
      have e1 : (b.take k ++ a.drop k).take 4 = b.take 4 := by
        rw [List.take_append_of_le_length (by simp [bl]; omega), List.take_take, Nat.min_eq_left (by omega)]
      have e2 : (b.take k ++ a.drop k).take 60 = b.take 60 := by
        rw [List.take_append_of_le_length (by simp [bl]; omega), List.take_take, Nat.min_eq_left (by omega)]
      rw [e1, bf, ← bz] at ends
      rw [← List.take_append_drop 60 (b.take k ++ a.drop k), ← ends, e2, List.take_append_drop]

theorem numB_lt {l : List Int} (h : AllB l) : numB l < 2 ^ (8 * l.length) := by
  have e := numB_getL l h
  have b := getL_lt l h
  rw [pow_bits] at b
  have : ((2 ^ (8 * l.length) : Nat) : Int) = (2 : Int) ^ (8 * l.length) := by simp
  omega
theorem numB_append (a b : List Int) : numB (a ++ b) = numB a ^^^ (numB b <<< (8 * a.length)) := by
  induction a with
  | nil => simp [numB]
  | cons c a ih =>
    rw [List.cons_append, numB, ih, numB, List.length_cons, Nat.shiftLeft_xor_distrib, ← Nat.shiftLeft_add, Nat.xor_assoc, show 8 * a.length + 8 = 8 * (a.length + 1) by omega]
theorem numB_low {b : List Int} (h : AllB b) (k : Nat) (hk : k ≤ b.length) : numB b % 2 ^ (8 * k) = numB (b.take k) := by
  have e := numB_append (b.take k) (b.drop k)
  have l : (b.take k).length = k := by simp [hk]
  rw [List.take_append_drop, l] at e
  have q := numB_lt (h.take k)
  rw [l] at q
  rw [e, Nat.xor_mod_two_pow, Nat.shiftLeft_eq, Nat.mul_mod_left, Nat.xor_zero, Nat.mod_eq_of_lt q]
theorem numB_high {b : List Int} (h : AllB b) (k : Nat) (hk : k ≤ b.length) : numB b >>> (8 * k) = numB (b.drop k) := by
  have e := numB_append (b.take k) (b.drop k)
  have l : (b.take k).length = k := by simp [hk]
  rw [List.take_append_drop, l] at e
  have q := numB_lt (h.take k)
  rw [l] at q
  rw [e, Nat.shiftRight_xor_distrib, Nat.shiftRight_eq_div_pow (numB (b.take k)), Nat.div_eq_of_lt q, Nat.zero_xor, Nat.shiftLeft_shiftRight]

/-- Bytes that end in the sum of those ahead of it, behind all of them. -/
theorem sum_behind {m : Mn} : (manM m).take 60 = hdM m ++ putL 4 (sumI (hdM m)) := by
  unfold manM
  rw [← List.append_assoc]
  exact List.take_left' (by simp [hdM_len, putL_len])

/-- A turned burst is seen. -/
theorem burst_man {m : Mn} {c : List Int} {p e : Nat} (hm : okM m = true) (hc : AllB c) (hl : c.length = 64) (hn : numB c = numB (manM m) ^^^ (e <<< p)) (he : e < 4294967296) (hp : p < 512) :
    (wrongM c = 0 ↔ e = 0) ∧ (c = manM m ↔ e = 0) := by
  have hb := manM_allB m
  have bl := manM_len m
  have h0 : e = 0 → c = manM m := by
    rintro rfl
    exact numB_inj hc hb (by rw [hl, bl]) (by rw [hn]; simp)
  have h1 : c = manM m → e = 0 := by
    intro h
    have : moreL 0 (manM m) = moreL 0 (manM m) ↔ e = 0 := burst_law (manM m) (manM m) p e rfl (by rw [← hn, h]) he (fun _ => by rw [bl]; omega)
    exact this.1 rfl
  refine ⟨⟨fun h => ?_, fun h => by rw [h0 h]; exact manM_right hm⟩, h1, h0⟩
  obtain ⟨_, ok2, e2⟩ := wrong_zero h
  generalize tldM c = m' at ok2 e2
  subst e2
  -- the first four bytes turn as the last four do
  obtain ⟨K, hK⟩ : ∃ K, K = 60 := ⟨_, rfl⟩
  have dl : ∀ x : Mn, (manM x).drop K = putL 4 x.s := fun x => by rw [hK]; exact manM_last x
  have lo := congrArg (· % 2 ^ (8 * 4)) hn
  simp only [Nat.xor_mod_two_pow] at lo
  rw [numB_low hc 4 (by omega), numB_low hb 4 (by omega), manM_first, manM_first] at lo
  have hi := congrArg (· >>> (8 * K)) hn
  simp only [Nat.shiftRight_xor_distrib] at hi
  rw [numB_high hc K (by omega), numB_high hb K (by omega), dl, dl] at hi
  have same : (e <<< p) % 2 ^ (8 * 4) = (e <<< p) >>> (8 * K) := by
    have := lo.symm.trans hi
    have q := congrArg (numB (putL 4 m.s) ^^^ ·) this
    simpa only [← Nat.xor_assoc, Nat.xor_self, Nat.zero_xor] using q
  have zero : (e <<< p) >>> (8 * K) = 0 := by
    by_cases p32 : p < 32
    · rw [Nat.shiftRight_eq_div_pow, Nat.div_eq_of_lt]
      rw [Nat.shiftLeft_eq]
      have : 2 ^ p ≤ 2 ^ 31 := Nat.pow_le_pow_right (by decide) (by omega)
      have : e * 2 ^ p < 4294967296 * 2 ^ 31 := Nat.lt_of_lt_of_le (Nat.mul_lt_mul_of_pos_right he (Nat.two_pow_pos p)) (Nat.mul_le_mul_left _ this)
      exact Nat.lt_of_lt_of_le this (Nat.le_trans (show 4294967296 * 2 ^ 31 ≤ 2 ^ 63 by decide) (Nat.pow_le_pow_right (by decide) (by omega)))
    · rw [← same, Nat.shiftLeft_eq, show p = 8 * 4 + (p - 32) by omega, Nat.pow_add, ← Nat.mul_assoc, Nat.mul_comm e, Nat.mul_assoc]
      exact Nat.mul_mod_right _ _
  have small : e <<< p < 2 ^ (8 * K) := by
    rw [Nat.shiftRight_eq_div_pow] at zero
    exact (Nat.div_eq_zero_iff_lt (Nat.two_pow_pos _)).1 zero
  have mid := congrArg (· % 2 ^ (8 * K)) hn
  simp only [Nat.xor_mod_two_pow] at mid
  rw [numB_low hc K (by omega), numB_low hb K (by omega), Nat.mod_eq_of_lt small] at mid
  have r1 := residue _ (hdM_allB m')
  have r2 := residue _ (hdM_allB m)
  rw [← sum_behind] at r1 r2
  rw [hK] at mid
  clear zero same hi lo
  refine (burst_law ((manM m).take 60) ((manM m').take 60) p e (by simp [manM_len]) mid he ?_).1 ?_
  · intro h0
    simp only [List.length_take, bl]
    rcases Nat.lt_or_ge p 480 with h | h
    · omega
    · exfalso
      have : 2 ^ (8 * K) ≤ e <<< p := by
        rw [Nat.shiftLeft_eq]
        exact Nat.le_trans (Nat.pow_le_pow_right (by decide) (by omega)) (Nat.le_mul_of_pos_left _ (Nat.pos_of_ne_zero h0))
      exact absurd small (Nat.not_lt.2 this)
  · simp only [moreL, Nat.zero_xor]
    rw [r1, r2]

/-! ### the next checkpoint -/
def lastM : List Int → Int
  | [] => 0
  | s :: l => max s (lastM l)
end Go.Proofs.Ytofmicbhheebiaa
