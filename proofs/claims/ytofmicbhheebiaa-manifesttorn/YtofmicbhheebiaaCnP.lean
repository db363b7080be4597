/- CnP: out of FrP. -/
import Derived.Test.YtofmicbhheebiaaDkP
import Derived.Test.YtofmicbhheebiaaNumP
import Derived.Test.YtofmicbhheebiaaSumP
set_option linter.unusedVariables false
set_option maxRecDepth 4000
set_option maxRecDepth 4000
namespace Go.Proofs.Ytofmicbhheebiaa
open Go.RowKit

/-- The sum of bytes. -/
def sumI (l : List Int) : Int := ((moreL 0 l : Nat) : Int)

theorem sumI_bd {l : List Int} (h : AllB l) : 0 ≤ sumI l ∧ sumI l < 4294967296 := by
  have := moreL_lt 0 l h (by decide)
  unfold sumI
  omega

/-- The bytes ahead of a frame's sum. -/
def headL (k : Int) (body : List Int) : List Int := k :: (putL 2 body.length ++ body)

/-- A frame's bytes. -/
def frL (k : Int) (body : List Int) : List Int := headL k body ++ putL 4 (sumI (headL k body))

/-- How many bytes the first frame has, as far as its head tells. -/
def extL (b : List Int) : Nat := if b.length < 3 then 7 else 7 + (b.getD 1 0 + 256 * b.getD 2 0).toNat

/-- What is wrong with bytes. -/
def wrongL (b : List Int) (alone : Bool) : Int :=
  if b.length < extL b then 3
  else if alone = true ∧ extL b < b.length then 6
  else if getL ((b.take (extL b)).drop (extL b - 4)) ≠ sumI (b.take (extL b - 4)) then 5
  else if b.getD 0 0 = 0 then 4 else 0

/-- The body of the first frame. -/
def bodyL (b : List Int) : List Int := (b.take (extL b - 4)).drop 3

theorem putL_len : ∀ (k : Nat) (n : Int), (putL k n).length = k
  | 0, _ => rfl
  | k + 1, n => by simp [putL, putL_len k]

theorem putL_allB : ∀ (k : Nat) (n : Int), AllB (putL k n)
  | 0, _ => by intro x hx; cases hx
  | k + 1, n => by
    intro x hx
    rcases List.mem_cons.1 hx with rfl | hx
    · omega
    · exact putL_allB k _ x hx

theorem headL_len (k : Int) (body : List Int) : (headL k body).length = body.length + 3 := by simp [headL, putL_len]; omega
theorem frL_len (k : Int) (body : List Int) : (frL k body).length = body.length + 7 := by simp [frL, headL_len, putL_len]
theorem headL_allB {k : Int} {body : List Int} (h0 : 0 ≤ k) (h1 : k ≤ 255) (h : AllB body) : AllB (headL k body) := by
  intro x hx
  rcases List.mem_cons.1 hx with rfl | hx
  · exact ⟨h0, h1⟩
  · exact (putL_allB 2 _).append h x hx
theorem frL_allB {k : Int} {body : List Int} (h0 : 0 ≤ k) (h1 : k ≤ 255) (h : AllB body) : AllB (frL k body) := (headL_allB h0 h1 h).append (putL_allB 4 _)

theorem extL_ge (b : List Int) : 7 ≤ extL b := by unfold extL; split <;> omega
theorem extL_le {b : List Int} (h : AllB b) : extL b ≤ 65542 := by
  unfold extL
  have h1 := h.at 1
  have h2 := h.at 2
  split <;> omega

theorem getL_of_putL : ∀ (k : Nat) (n : Int), 0 ≤ n → n < 256 ^ k → getL (putL k n) = n
  | 0, n, h0, h1 => by simp at h1; simp [putL, getL]; omega
  | k + 1, n, h0, h1 => by
    rw [putL, getL, getL_of_putL k (n / 256) (by omega) (by rw [Int.pow_succ] at h1; omega)]
    omega

theorem putL_of_getL : ∀ (l : List Int), AllB l → putL l.length (getL l) = l
  | [], _ => rfl
  | c :: l, h => by
    have hc := h c (by simp)
    have ih := putL_of_getL l (fun x hx => h x (by simp [hx]))
    rw [getL, List.length_cons, putL, show (c + 256 * getL l) % 256 = c from by omega, show (c + 256 * getL l) / 256 = getL l from by omega, ih]

theorem numB_getL : ∀ (l : List Int), AllB l → ((numB l : Nat) : Int) = getL l
  | [], _ => rfl
  | c :: l, h => by
    have hc := h c (by simp)
    have ih := numB_getL l (fun x hx => h x (by simp [hx]))
    rw [numB, getL, ← ih]
    have e1 : (c.toNat ^^^ (numB l <<< 8)) % 2 ^ 8 = c.toNat := by
      rw [Nat.xor_mod_two_pow, Nat.shiftLeft_eq, Nat.mul_mod_left, Nat.xor_zero, Nat.mod_eq_of_lt (by omega)]
    have e2 : (c.toNat ^^^ (numB l <<< 8)) / 2 ^ 8 = numB l := by
      have := Nat.shiftRight_xor_distrib (a := c.toNat) (b := numB l <<< 8) (i := 8)
      rw [Nat.shiftRight_eq_div_pow, Nat.shiftRight_eq_div_pow, Nat.shiftLeft_shiftRight, Nat.div_eq_of_lt (a := c.toNat) (by omega), Nat.zero_xor] at this
      exact this
    omega

theorem numB_inj {a b : List Int} (ha : AllB a) (hb : AllB b) (hl : a.length = b.length) (h : numB a = numB b) : a = b := by
  rw [← putL_of_getL a ha, ← putL_of_getL b hb, hl, ← numB_getL a ha, ← numB_getL b hb, h]

/-- Four bytes are a sum's just if their number is it. -/
theorem four_iff {t : List Int} {s : Int} (ht : AllB t) (hl : t.length = 4) (h0 : 0 ≤ s) (h1 : s < 4294967296) : getL t = s ↔ t = putL 4 s := by
  constructor
  · rintro rfl
    rw [← hl, putL_of_getL t ht]
  · rintro rfl
    exact getL_of_putL 4 s h0 (by simpa using h1)

theorem getD_append_left {a b : List Int} {i : Nat} (h : i < a.length) : (a ++ b).getD i 0 = a.getD i 0 := by simp [List.getD, List.getElem?_append_left h]

theorem headL_ext (k : Int) (body more : List Int) (hm : body.length ≤ 65535) : extL (headL k body ++ more) = body.length + 7 := by
  have hl : ¬ (headL k body ++ more).length < 3 := by simp [headL_len]; omega
  unfold extL
  rw [if_neg hl]
  have e1 : (headL k body ++ more).getD 1 0 = (body.length : Int) % 256 := by simp [headL, putL]
  have e2 : (headL k body ++ more).getD 2 0 = (body.length : Int) / 256 % 256 := by simp [headL, putL]
  rw [e1, e2]
  omega

theorem frL_ext (k : Int) (body more : List Int) (hm : body.length ≤ 65535) : extL (frL k body ++ more) = body.length + 7 := by
  rw [frL, List.append_assoc]; exact headL_ext k body _ hm

theorem frL_take (k : Int) (body more : List Int) : (frL k body ++ more).take (body.length + 7 - 4) = headL k body := by
  rw [frL, List.append_assoc, show body.length + 7 - 4 = (headL k body).length from by rw [headL_len]; omega, List.take_left]

theorem frL_all (k : Int) (body more : List Int) : (frL k body ++ more).take (body.length + 7) = frL k body := by
  rw [← frL_len k body, List.take_left]

theorem frL_rest (k : Int) (body more : List Int) : (frL k body ++ more).drop (body.length + 7) = more := by
  rw [← frL_len k body, List.drop_left]

theorem frL_tail (k : Int) (body : List Int) : (frL k body).drop (body.length + 7 - 4) = putL 4 (sumI (headL k body)) := by
  rw [frL, show body.length + 7 - 4 = (headL k body).length from by rw [headL_len]; omega, List.drop_left]

theorem frL_first (k : Int) (body more : List Int) : (frL k body ++ more).getD 0 0 = k := by simp [frL, headL]

/-- What is encoded is split off, whatever stands behind it. -/
theorem frL_right (k : Int) (body more : List Int) (al : Bool) (h0 : 1 ≤ k) (h1 : k ≤ 255) (hb : AllB body) (hm : body.length ≤ 65535) (ha : al = false ∨ more = []) : wrongL (frL k body ++ more) al = 0 := by
  have hs := sumI_bd (headL_allB (by omega) h1 hb)
  unfold wrongL
  rw [frL_ext k body more hm, frL_take, frL_all, frL_tail, frL_first, getL_of_putL 4 _ hs.1 (by simpa using hs.2)]
  rw [if_neg (by simp [frL_len]), if_neg, if_neg (by simp), if_neg (by omega)]
  rintro ⟨h, h'⟩
  rcases ha with rfl | rfl
  · cases h
  · simp [frL_len] at h'

theorem frL_body (k : Int) (body more : List Int) (hm : body.length ≤ 65535) : bodyL (frL k body ++ more) = body := by
  rw [bodyL, frL_ext k body more hm, frL_take]
  simp [headL, putL]

/-- With something behind it a frame is none by itself. -/
theorem frL_long (k : Int) (body more : List Int) (hm : body.length ≤ 65535) (h : more ≠ []) : wrongL (frL k body ++ more) true = 6 := by
  unfold wrongL
  have : 0 < more.length := List.length_pos_iff.2 h
  rw [frL_ext k body more hm, if_neg (by simp [frL_len]), if_pos ⟨rfl, by simp [frL_len]; omega⟩]

/-- Bytes of a frame that lack some. -/
theorem frL_short (k : Int) (body : List Int) (n : Nat) (al : Bool) (hm : body.length ≤ 65535) (hn : n < body.length + 7) : wrongL ((frL k body).take n) al = 3 := by
  have hl : ((frL k body).take n).length = n := by rw [List.length_take, frL_len]; omega
  unfold wrongL
  rw [if_pos]
  rw [hl]
  by_cases h3 : n < 3
  · have := extL_ge ((frL k body).take n); omega
  · have e : extL ((frL k body).take n) = body.length + 7 := by
      rw [← frL_ext k body [] hm, List.append_nil, extL, extL, hl, if_neg h3, if_neg (by rw [frL_len]; omega)]
      have g : ∀ i, i < 3 → ((frL k body).take n).getD i 0 = (frL k body).getD i 0 := fun i hi => by simp [List.getD, show i < n by omega]
      rw [g 1 (by omega), g 2 (by omega)]
    omega

/-- What the register holds behind bytes and their sum. -/
theorem residue (d : List Int) (h : AllB d) : moreF 4294967295 (d ++ putL 4 (sumI d)) = steps 32 4294967295 := by
  have hs := sumI_bd h
  have e : numB (putL 4 (sumI d)) = moreL 0 d := by
    have h1 := numB_getL _ (putL_allB 4 (sumI d))
    rw [getL_of_putL 4 _ hs.1 (by simpa using hs.2)] at h1
    unfold sumI at h1 ⊢
    omega
  rw [moreF_append, moreF_num (putL 4 _), putL_len, e, moreL, Nat.zero_xor, ← Nat.xor_assoc, Nat.xor_self, Nat.zero_xor]

/-- Bytes that are a frame end in the sum of those ahead of it. -/
theorem right_parts {c : List Int} (hc : AllB c) (h : wrongL c true = 0) : 7 ≤ c.length ∧ c = c.take (c.length - 4) ++ putL 4 (sumI (c.take (c.length - 4))) := by
  have hge := extL_ge c
  unfold wrongL at h
  split at h
  · cases h
  split at h
  · cases h
  split at h
  · cases h
  rename_i h1 h2 h3
  have he : extL c = c.length := by
    have : ¬ extL c < c.length := fun hx => h2 ⟨rfl, hx⟩
    omega
  rw [he] at h3 hge
  simp only [Decidable.not_not] at h3
  rw [List.take_length] at h3
  have hs := sumI_bd (hc.take (c.length - 4))
  have := (four_iff (hc.drop (c.length - 4)) (by rw [List.length_drop]; omega) hs.1 hs.2).1 h3
  refine ⟨hge, ?_⟩
  rw [← this, List.take_append_drop]

/-- A frame over which a burst is laid is a frame just if it has no bit. -/
theorem burst_frame {b c : List Int} {p e : Nat} (hb : AllB b) (hc : AllB c) (hr : wrongL b true = 0) (hlen : c.length = b.length) (hn : numB c = numB b ^^^ (e <<< p)) (he : e < 4294967296) (ha : e ≠ 0 → p < 8 * b.length) :
    (wrongL c true = 0 ↔ e = 0) ∧ (c = b ↔ e = 0) := by
  have h0 : e = 0 → c = b := by
    rintro rfl
    exact numB_inj hc hb hlen (by rw [hn]; simp)
  have h1 : c = b → e = 0 := by
    rintro rfl
    have : moreL 0 c = moreL 0 c ↔ e = 0 := burst_law c c p e rfl hn he ha
    exact this.1 rfl
  refine ⟨⟨fun h => ?_, fun h => by rw [h0 h]; exact hr⟩, h1, h0⟩
  obtain ⟨l1, p1⟩ := right_parts hc h
  obtain ⟨l2, p2⟩ := right_parts hb hr
  have r1 := residue _ (hc.take (c.length - 4))
  have r2 := residue _ (hb.take (b.length - 4))
  rw [← p1] at r1
  rw [← p2] at r2
  refine (burst_law b c p e hlen hn he ha).1 ?_
  simp only [moreL, Nat.zero_xor]
  rw [r1, r2]
end Go.Proofs.Ytofmicbhheebiaa
