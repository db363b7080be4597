/- What BinarySearch, keeps and Live answer. -/
import Derived.Test.YtgmljgogmbaioabGreatDoorKaB
namespace Go.Proofs.YtgmljgogmbaioabGreatDoor
open Go.RowKit
set_option linter.unusedVariables false
set_option maxRecDepth 4000

/-- Where a number stands in a rising list. -/
structure BinR (l : List Nat) (x : Int) (i : Nat) : Prop where
  le : i ≤ l.length
  low : ∀ k (hk : k < l.length), k < i → (l[k] : Int) < x
  high : ∀ k (hk : k < l.length), i ≤ k → x ≤ (l[k] : Int)
theorem BinR.mem {l : List Nat} {x : Int} {i : Nat} (h : BinR l x i) (hs : l.Pairwise (· < ·)) : (∃ y ∈ l, (y : Int) = x) ↔ ∃ hi : i < l.length, (l[i] : Int) = x := by
  constructor
  · rintro ⟨y, hy, e⟩
    obtain ⟨k, hk, rfl⟩ := List.getElem_of_mem hy
    rcases Nat.lt_trichotomy k i with q | q | q
    · have := h.low k hk q; omega
    · subst q; exact ⟨hk, e⟩
    · have hi : i < l.length := by omega
      have h1 := h.high i hi (Nat.le_refl _)
      have h2 := List.pairwise_iff_getElem.1 hs i k hi hk q
      omega
  · rintro ⟨hi, e⟩; exact ⟨_, List.getElem_mem hi, e⟩
set_option maxHeartbeats 2000000 in
theorem bins_any (S : Nat → Prop) (a : Option Addr) (cap : Nat) (l : List Nat) (x : Int) (w : World) (h : VAt w S 3 a (l.map numV) cap) (hs : l.Pairwise (· < ·)) (hl : l.length ≤ 100000) (r : Bool) (hr : decide (∃ y ∈ l, (y : Int) = x) = r) :
    Calls Tryz.prog 46 #[.slice a l.length cap, .int .i64 x] w fun e w' => ∃ i : Nat, e = .returned (.tuple #[.int .i64 (i : Nat), .bool r]) ∧ BinR l x i ∧ w = w' := by
  have HC : Hid (∀ k (hk : k < l.length), ∃ g, a = some ⟨g, 0, none⟩ ∧ w.cell? ⟨g, k, none⟩ = some (.int .i64 (l[k] : Nat))) := fun k hk => by
    obtain ⟨g, h1, _, _, h2, _⟩ := h.at k (by simpa using hk)
    exact ⟨g, h1, by rw [h2]; simp [numV]⟩
  have HS : Hid (∀ i j (hi : i < l.length) (hj : j < l.length), i ≤ j → l[i] ≤ l[j]) := fun i j hi hj hij => by
    rcases Nat.lt_or_eq_of_le hij with e | e
    · exact Nat.le_of_lt (List.pairwise_iff_getElem.1 hs i j hi hj e)
    · subst e; exact Nat.le_refl _
  obtain ⟨n, hn⟩ : ∃ n, l.length = n := ⟨_, rfl⟩
  have EN : Hid (l.length = n) := hn
  have PW : Hid (l.Pairwise (· < ·)) := hs
  have HR : Hid (decide (∃ y ∈ l, (y : Int) = x) = r) := hr
  rw [hn] at hl ⊢
  clear h hs hn hr
  go_enter Tryz.func46, Tryz.ntmps46
  go_wp2
  go_loopw [7, 8] (fun iv jv wr => ∃ i j : Nat, i ≤ j ∧ j ≤ n ∧ iv = .int .i64 (i : Nat) ∧ jv = .int .i64 (j : Nat) ∧ (∀ k (hk : k < l.length), k < i → (l[k] : Int) < x) ∧ (∀ k (hk : k < l.length), j ≤ k → x ≤ (l[k] : Int)) ∧ w = wr) (fun iv jv _ => (intOf jv).toNat - (intOf iv).toNat)
  case atStart => exact ⟨0, n, Nat.zero_le _, Nat.le_refl _, rfl, rfl, fun k hk h => by omega, fun k hk h => by have := EN.out; omega, rfl⟩
  case round =>
    obtain ⟨i, j, hij, hjn, rfl, rfl, hA, hB, rfl⟩ := hrel
    have HA : Hid (∀ k (hk : k < l.length), k < i → (l[k] : Int) < x) := hA
    have HB : Hid (∀ k (hk : k < l.length), j ≤ k → x ≤ (l[k] : Int)) := hB
    clear hA hB
    by_cases hlt : i < j
    · have hlt' : (i : Int) < (j : Int) := by omega
      obtain ⟨m, hmm⟩ : ∃ m, (i + j) / 2 = m := ⟨_, rfl⟩
      have hm1 : i ≤ m := by omega
      have hm2 : m < j := by omega
      have hml : m < l.length := by have := EN.out; omega
      obtain ⟨g, rfl, hc⟩ := HC.out m hml
      obtain ⟨y, hy⟩ : ∃ y, l[m] = y := ⟨_, rfl⟩
      have EY : Hid (l[m] = y) := hy
      rw [hy] at hc
      have hmi : (m : Int) < (n : Int) := by omega
      have hm0 : (0 : Int) ≤ (m : Int) := by omega
      have hdiv : ((i : Int) + (j : Int)) / 2 = (m : Int) := by omega
      cases hp : decide ((y : Int) < x)
      · have hnl : ¬ ((y : Int) < x) := of_decide_eq_false hp
        have NB : Hid (∀ k (hk : k < l.length), m ≤ k → x ≤ (l[k] : Int)) := fun k hk hmk => by
          have := HS.out m k hml hk hmk
          rw [EY.out] at this
          omega
        clear hmm hy
        go_wp2_with (first | (rw [hdiv]) | (go_at_call 69; refine (less_any _ _ _).mono ?_; rw [hp]; rintro e w' ⟨rfl, rfl⟩))
        go_roundw
        case rel => exact ⟨i, m, by omega, by omega, rfl, rfl, HA.out, NB.out, trivial⟩
        case measure => simp [intOf]; omega
      · have hnl : (y : Int) < x := of_decide_eq_true hp
        have NA : Hid (∀ k (hk : k < l.length), k < m + 1 → (l[k] : Int) < x) := fun k hk hmk => by
          have := HS.out k m hk hml (by omega)
          rw [EY.out] at this
          omega
        clear hmm hy
        go_wp2_with (first | (rw [hdiv]) | (go_at_call 69; refine (less_any _ _ _).mono ?_; rw [hp]; rintro e w' ⟨rfl, rfl⟩))
        go_roundw
        case rel => exact ⟨m + 1, j, by omega, by omega, by go_num, rfl, NA.out, HB.out, trivial⟩
        case measure => simp [intOf]; omega
    · obtain rfl : i = j := by omega
      have BR : Hid (BinR l x i) := ⟨by have := EN.out; omega, HA.out, HB.out⟩
      by_cases hin : i < n
      · have hil : i < l.length := by have := EN.out; omega
        obtain ⟨g, rfl, hc⟩ := HC.out i hil
        obtain ⟨y, hy⟩ : ∃ y, l[i] = y := ⟨_, rfl⟩
        rw [hy] at hc
        have hin' : (i : Int) < (n : Int) := by omega
        have hi0 : (0 : Int) ≤ (i : Int) := by omega
        cases hp : ((y : Int) == x)
        · have ER : Hid (r = false) := by
            show r = false
            rw [← HR.out]
            refine decide_eq_false (fun h => ?_)
            obtain ⟨_, e⟩ := (BR.out.mem PW.out).1 h
            rw [hy] at e
            rw [beq_eq_false_iff_ne] at hp
            exact hp e
          clear hy HR
          go_wp2_with (go_at_call 70; refine (sNaN_any _ _).mono ?_; rintro e w' ⟨rfl, rfl⟩)
          go_ret2
          exact ⟨i, by rw [ER.out]; rfl, BR.out, rfl⟩
        · have ER : Hid (r = true) := by
            show r = true
            rw [← HR.out]
            refine decide_eq_true ((BR.out.mem PW.out).2 ⟨hil, ?_⟩)
            rw [hy]
            exact eq_of_beq hp
          clear hy HR
          go_wp2_with (go_at_call 70; refine (sNaN_any _ _).mono ?_; rintro e w' ⟨rfl, rfl⟩)
          go_ret2
          exact ⟨i, by rw [ER.out]; rfl, BR.out, rfl⟩
      · obtain rfl : i = n := by omega
        have ER : Hid (r = false) := by
          show r = false
          rw [← HR.out]
          refine decide_eq_false (fun h => ?_)
          obtain ⟨hi, _⟩ := (BR.out.mem PW.out).1 h
          have := EN.out
          omega
        clear HR
        go_wp2_with (go_at_call 70; refine (sNaN_any _ _).mono ?_; rintro e w' ⟨rfl, rfl⟩)
        go_ret2
        exact ⟨i, by rw [ER.out]; rfl, BR.out, rfl⟩
end Go.Proofs.YtgmljgogmbaioabGreatDoor
