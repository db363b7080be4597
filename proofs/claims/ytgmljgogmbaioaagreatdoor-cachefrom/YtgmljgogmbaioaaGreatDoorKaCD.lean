/- What BinarySearch, keeps and Live answer. -/
import Derived.Test.YtgmljgogmbaioaaGreatDoorKaB
import Derived.Test.YtgmljgogmbaioaaGreatDoorVaC
namespace Go.Proofs.YtgmljgogmbaioaaGreatDoor
open Go.RowKit
set_option linter.unusedVariables false
set_option maxRecDepth 4000

/-- Where a number stands in a rising list. -/
structure BinR (l : List Nat) (x : Int) (i : Nat) : Prop where
  le : i ≤ l.length
  low : ∀ k (hk : k < l.length), k < i → (l[k] : Int) < x
  high : ∀ k (hk : k < l.length), i ≤ k → x ≤ (l[k] : Int)
theorem BinR.mem {l : List Nat} {x : Int} {i : Nat} (h : BinR l x i) (hs : l.Pairwise (· < ·)) : (∃ y ∈ l, (y : Int) = x) ↔ ∃ hi : i < l.length, (l[i] : Int) = x := by
  constructor
  · rintro ⟨y, hy, e⟩
    obtain ⟨k, hk, rfl⟩ := List.getElem_of_mem hy
    rcases Nat.lt_trichotomy k i with q | q | q
    · have := h.low k hk q; omega
    · subst q; exact ⟨hk, e⟩
    · have hi : i < l.length := by omega
      have h1 := h.high i hi (Nat.le_refl _)
      have h2 := List.pairwise_iff_getElem.1 hs i k hi hk q
      omega
  · rintro ⟨hi, e⟩; exact ⟨_, List.getElem_mem hi, e⟩
set_option maxHeartbeats 2000000 in
theorem bins_any (S : Nat → Prop) (a : Option Addr) (cap : Nat) (l : List Nat) (x : Int) (w : World) (h : VAt w S 3 a (l.map numV) cap) (hs : l.Pairwise (· < ·)) (hl : l.length ≤ 100000) (r : Bool) (hr : decide (∃ y ∈ l, (y : Int) = x) = r) :
    Calls Tryz.prog 92 #[.slice a l.length cap, .int .i64 x] w fun e w' => ∃ i : Nat, e = .returned (.tuple #[.int .i64 (i : Nat), .bool r]) ∧ BinR l x i ∧ w = w' := by
  have HC : Hid (∀ k (hk : k < l.length), ∃ g, a = some ⟨g, 0, none⟩ ∧ w.cell? ⟨g, k, none⟩ = some (.int .i64 (l[k] : Nat))) := fun k hk => by
    obtain ⟨g, h1, _, _, h2, _⟩ := h.at k (by simpa using hk)
    exact ⟨g, h1, by rw [h2]; simp [numV]⟩
  have HS : Hid (∀ i j (hi : i < l.length) (hj : j < l.length), i ≤ j → l[i] ≤ l[j]) := fun i j hi hj hij => by
    rcases Nat.lt_or_eq_of_le hij with e | e
    · exact Nat.le_of_lt (List.pairwise_iff_getElem.1 hs i j hi hj e)
    · subst e; exact Nat.le_refl _
  obtain ⟨n, hn⟩ : ∃ n, l.length = n := ⟨_, rfl⟩
  have EN : Hid (l.length = n) := hn
  have PW : Hid (l.Pairwise (· < ·)) := hs
  have HR : Hid (decide (∃ y ∈ l, (y : Int) = x) = r) := hr
  rw [hn] at hl ⊢
  clear h hs hn hr
  go_enter Tryz.func92, Tryz.ntmps92
  go_wp2
  go_loopw [7, 8] (fun iv jv wr => ∃ i j : Nat, i ≤ j ∧ j ≤ n ∧ iv = .int .i64 (i : Nat) ∧ jv = .int .i64 (j : Nat) ∧ (∀ k (hk : k < l.length), k < i → (l[k] : Int) < x) ∧ (∀ k (hk : k < l.length), j ≤ k → x ≤ (l[k] : Int)) ∧ w = wr) (fun iv jv _ => (intOf jv).toNat - (intOf iv).toNat)
  case atStart => exact ⟨0, n, Nat.zero_le _, Nat.le_refl _, rfl, rfl, fun k hk h => by omega, fun k hk h => by have := EN.out; omega, rfl⟩
  case round =>
    obtain ⟨i, j, hij, hjn, rfl, rfl, hA, hB, rfl⟩ := hrel
    have HA : Hid (∀ k (hk : k < l.length), k < i → (l[k] : Int) < x) := hA
    have HB : Hid (∀ k (hk : k < l.length), j ≤ k → x ≤ (l[k] : Int)) := hB
    clear hA hB
    by_cases hlt : i < j
    · have hlt' : (i : Int) < (j : Int) := by omega
      obtain ⟨m, hmm⟩ : ∃ m, (i + j) / 2 = m := ⟨_, rfl⟩
      have hm1 : i ≤ m := by omega
      have hm2 : m < j := by omega
      have hml : m < l.length := by have := EN.out; omega
      obtain ⟨g, rfl, hc⟩ := HC.out m hml
      obtain ⟨y, hy⟩ : ∃ y, l[m] = y := ⟨_, rfl⟩
      have EY : Hid (l[m] = y) := hy
      rw [hy] at hc
      have hmi : (m : Int) < (n : Int) := by omega
      have hm0 : (0 : Int) ≤ (m : Int) := by omega
      have hdiv : ((i : Int) + (j : Int)) / 2 = (m : Int) := by omega
      cases hp : decide ((y : Int) < x)
      · have hnl : ¬ ((y : Int) < x) := of_decide_eq_false hp
        have NB : Hid (∀ k (hk : k < l.length), m ≤ k → x ≤ (l[k] : Int)) := fun k hk hmk => by
          have := HS.out m k hml hk hmk
          rw [EY.out] at this
          omega
        clear hmm hy
        go_wp2_with (first | (rw [hdiv]) | (go_at_call 116; refine (less_any _ _ _).mono ?_; rw [hp]; rintro e w' ⟨rfl, rfl⟩))
        go_roundw
        case rel => exact ⟨i, m, by omega, by omega, rfl, rfl, HA.out, NB.out, trivial⟩
        case measure => simp [intOf]; omega
      · have hnl : (y : Int) < x := of_decide_eq_true hp
        have NA : Hid (∀ k (hk : k < l.length), k < m + 1 → (l[k] : Int) < x) := fun k hk hmk => by
          have := HS.out k m hk hml (by omega)
          rw [EY.out] at this
          omega
        clear hmm hy
        go_wp2_with (first | (rw [hdiv]) | (go_at_call 116; refine (less_any _ _ _).mono ?_; rw [hp]; rintro e w' ⟨rfl, rfl⟩))
        go_roundw
        case rel => exact ⟨m + 1, j, by omega, by omega, by go_num, rfl, NA.out, HB.out, trivial⟩
        case measure => simp [intOf]; omega
    · obtain rfl : i = j := by omega
      have BR : Hid (BinR l x i) := ⟨by have := EN.out; omega, HA.out, HB.out⟩
      by_cases hin : i < n
      · have hil : i < l.length := by have := EN.out; omega
        obtain ⟨g, rfl, hc⟩ := HC.out i hil
        obtain ⟨y, hy⟩ : ∃ y, l[i] = y := ⟨_, rfl⟩
        rw [hy] at hc
        have hin' : (i : Int) < (n : Int) := by omega
        have hi0 : (0 : Int) ≤ (i : Int) := by omega
        cases hp : ((y : Int) == x)
        · have ER : Hid (r = false) := by
            show r = false
            rw [← HR.out]
            refine decide_eq_false (fun h => ?_)
            obtain ⟨_, e⟩ := (BR.out.mem PW.out).1 h
            rw [hy] at e
            rw [beq_eq_false_iff_ne] at hp
            exact hp e
          clear hy HR
          go_wp2_with (go_at_call 117; refine (sNaN_any _ _).mono ?_; rintro e w' ⟨rfl, rfl⟩)
          go_ret2
          exact ⟨i, by rw [ER.out]; rfl, BR.out, rfl⟩
        · have ER : Hid (r = true) := by
            show r = true
            rw [← HR.out]
            refine decide_eq_true ((BR.out.mem PW.out).2 ⟨hil, ?_⟩)
            rw [hy]
            exact eq_of_beq hp
          clear hy HR
          go_wp2_with (go_at_call 117; refine (sNaN_any _ _).mono ?_; rintro e w' ⟨rfl, rfl⟩)
          go_ret2
          exact ⟨i, by rw [ER.out]; rfl, BR.out, rfl⟩
      · obtain rfl : i = n := by omega
        have ER : Hid (r = false) := by
          show r = false
          rw [← HR.out]
          refine decide_eq_false (fun h => ?_)
          obtain ⟨hi, _⟩ := (BR.out.mem PW.out).1 h
          have := EN.out
          omega
        clear HR
        go_wp2_with (go_at_call 117; refine (sNaN_any _ _).mono ?_; rintro e w' ⟨rfl, rfl⟩)
        go_ret2
        exact ⟨i, by rw [ER.out]; rfl, BR.out, rfl⟩
end Go.Proofs.YtgmljgogmbaioaaGreatDoor

/- What keeps, Live and put do. -/
namespace Go.Proofs.YtgmljgogmbaioaaGreatDoor
open Go.RowKit
set_option linter.unusedVariables false
set_option maxRecDepth 4000

theorem bins_q (S : Nat → Prop) (a : Option Addr) (cap n : Nat) (l : List Nat) (x : Int) (w : World) (h : VAt w S 3 a (l.map numV) cap) (hs : l.Pairwise (· < ·)) (hl : l.length ≤ 100000) (hn : l.length = n) (r : Bool) (hr : decide (∃ y ∈ l, (y : Int) = x) = r) :
    Calls Tryz.prog 92 #[.slice a n cap, .int .i64 x] w fun e w' => ∃ i : Nat, e = .returned (.tuple #[.int .i64 (i : Nat), .bool r]) ∧ BinR l x i ∧ w = w' := by
  subst hn; exact bins_any S a cap l x w h hs hl r hr
/-- Does a worker keep the slot of a class at a place? -/
def keepsB (W : Nat) (K : Nat → Nat → List Nat) (c : Nat) (x : Int) : Bool := decide (c < 7) && (List.range W).any (fun v => (K v c).any (fun y => decide ((y : Int) = x)))
theorem keepsB_true {W : Nat} {K : Nat → Nat → List Nat} {c : Nat} {x : Int} : keepsB W K c x = true ↔ c < 7 ∧ ∃ v, v < W ∧ ∃ y ∈ K v c, (y : Int) = x := by
  unfold keepsB
  rw [Bool.and_eq_true, decide_eq_true_iff, List.any_eq_true]
  constructor
  · rintro ⟨h1, v, hv, h2⟩
    rw [List.any_eq_true] at h2
    obtain ⟨y, hy, e⟩ := h2
    exact ⟨h1, v, List.mem_range.1 hv, y, hy, of_decide_eq_true e⟩
  · rintro ⟨h1, v, hv, y, hy, e⟩
    exact ⟨h1, v, List.mem_range.2 hv, List.any_eq_true.2 ⟨y, hy, decide_eq_true e⟩⟩
theorem keepsB_false {W : Nat} {K : Nat → Nat → List Nat} {c : Nat} {x : Int} (h : ¬ (c < 7 ∧ ∃ v, v < W ∧ ∃ y ∈ K v c, (y : Int) = x)) : keepsB W K c x = false := by
  cases e : keepsB W K c x
  · rfl
  · exact absurd (keepsB_true.1 e) h
set_option maxHeartbeats 2000000 in
theorem kkeeps_any (L : Nat → Nat) (cb fb hb : Nat) (a : Option Addr) (cap : Nat) (ps : List Nat) (sh : List Value) (P W : Nat) (φ : Nat → Bool) (m : List Sg) (K : Nat → Nat → List Nat) (c : Nat) (x : Int) (w : World) (h : Cm w L cb fb hb a cap ps sh P W φ m K) (hW : W ≤ 8) (hc : c ≤ 7) (hs : ∀ v, v < W → c < 7 → (K v c).Pairwise (· < ·) ∧ (K v c).length ≤ 100000) (r : Bool) (hr : keepsB W K c x = r) :
    Calls Tryz.prog 52 #[.pointer (some ⟨cb, 0, none⟩), .int .i64 (c : Nat), .int .i64 x] w fun e w' => e = .returned (.bool r) ∧ w = w' := by
  have HC : Hid (Cm w L cb fb hb a cap ps sh P W φ m K) := h
  have HS : Hid (∀ v, v < W → c < 7 → (K v c).Pairwise (· < ·) ∧ (K v c).length ≤ 100000) := hs
  have HR : Hid (keepsB W K c x = r) := hr
  have c2 := h.cell2
  clear h hs hr
  by_cases h7 : c = 7
  · subst h7
    have ER : Hid (r = false) := by show r = false; rw [← HR.out]; exact keepsB_false (fun h => absurd h.1 (by omega))
    go_enter Tryz.func52, Tryz.ntmps52
    go_wp2
    go_ret
    exact ⟨by rw [ER.out]; rfl, rfl⟩
  · have hne : ((c : Int) == 7) = false := beq_eq_false_iff_ne.2 (by omega)
    have hc7 : c < 7 := by omega
    have hc7' : (c : Int) < 7 := by omega
    have hc0 : (0 : Int) ≤ (c : Int) := by omega
    clear h7
    go_enter Tryz.func52, Tryz.ntmps52
    go_wp2
    go_loopw [17] (fun iv wr => ∃ v : Nat, v ≤ W ∧ iv = .int .i64 (v : Nat) ∧ (∀ u, u < v → ¬ ∃ y ∈ K u c, (y : Int) = x) ∧ w = wr) (fun iv _ => W - (intOf iv).toNat)
    case atStart => exact ⟨0, Nat.zero_le _, rfl, fun u hu => by omega, rfl⟩
    case round =>
      obtain ⟨v, hv, rfl, hA, rfl⟩ := hrel
      have HA : Hid (∀ u, u < v → ¬ ∃ y ∈ K u c, (y : Int) = x) := hA
      clear hA
      by_cases hlt : v < W
      · obtain ⟨ak, ck, k1, _, k2⟩ := HC.out.kept v c hlt hc7
        have KV : Hid (VAt w (fun k => L k = 6 + 2 * (v * 7 + c)) 3 ak ((K v c).map numV) ck) := k2
        obtain ⟨n, hn⟩ : ∃ n, (K v c).length = n := ⟨_, rfl⟩
        have EN : Hid ((K v c).length = n) := hn
        rw [hn] at k1
        have hlt' : (v : Int) < (W : Int) := by omega
        have hv0 : (0 : Int) ≤ (v : Int) := by omega
        clear k2 hn
        cases hp : decide (∃ y ∈ K v c, (y : Int) = x)
        · have NA : Hid (∀ u, u < v + 1 → ¬ ∃ y ∈ K u c, (y : Int) = x) := fun u hu => by
            rcases Nat.lt_or_eq_of_le (Nat.le_of_lt_succ hu) with e | e
            · exact HA.out u e
            · subst e; exact of_decide_eq_false hp
          have HP : Hid (decide (∃ y ∈ K v c, (y : Int) = x) = false) := hp
          clear hp
          go_wp2_with (go_at_call 92; refine (bins_q _ ak ck n (K v c) x _ KV.out (HS.out v hlt hc7).1 (HS.out v hlt hc7).2 EN.out false HP.out).mono ?_; rintro e w' ⟨i, rfl, -, rfl⟩)
          go_roundw
          case rel => exact ⟨v + 1, by omega, by go_num, NA.out, trivial⟩
          case measure => simp [intOf]; omega
        · have ER : Hid (r = true) := by
            show r = true
            rw [← HR.out]
            exact keepsB_true.2 ⟨hc7, v, hlt, of_decide_eq_true hp⟩
          have HP : Hid (decide (∃ y ∈ K v c, (y : Int) = x) = true) := hp
          clear hp
          go_wp2_with (go_at_call 92; refine (bins_q _ ak ck n (K v c) x _ KV.out (HS.out v hlt hc7).1 (HS.out v hlt hc7).2 EN.out true HP.out).mono ?_; rintro e w' ⟨i, rfl, -, rfl⟩)
          go_ret
          exact ⟨by rw [ER.out]; rfl, rfl⟩
      · obtain rfl : v = W := by omega
        have ER : Hid (r = false) := by
          show r = false
          rw [← HR.out]
          refine keepsB_false (fun h => ?_)
          obtain ⟨_, u, hu, h⟩ := h
          exact HA.out u hu h
        go_wp2
        go_ret
        exact ⟨by rw [ER.out]; rfl, rfl⟩
/-- Is an object at a place? -/
def liveB (m : List Sg) (x : Int) : Bool := decide (0 ≤ x) && (liveC x.toNat m).isSome
theorem liveB_of {W P a0 : Nat} {m : List Sg} {x : Int} (hf : Fit W P a0 m) : liveB m x = true ↔ 0 ≤ x ∧ ∃ z c, In m x.toNat z c 1 := by
  unfold liveB
  rw [Bool.and_eq_true, decide_eq_true_iff]
  constructor
  · rintro ⟨h1, h2⟩
    obtain ⟨c, hc⟩ := Option.isSome_iff_exists.1 h2
    obtain ⟨z, h⟩ := liveC_in hc
    exact ⟨h1, z, c, h⟩
  · rintro ⟨h1, z, c, h⟩
    exact ⟨h1, by rw [liveC_of hf h]; rfl⟩
theorem liveB_no {W P a0 : Nat} {m : List Sg} {x : Int} (hf : Fit W P a0 m) (h : ¬ (0 ≤ x ∧ ∃ z c, In m x.toNat z c 1)) : liveB m x = false := by
  cases e : liveB m x
  · rfl
  · exact absurd ((liveB_of hf).1 e) h
/-- What workers keep is what the slots say. -/
def Kof (m : List Sg) : Nat → Nat → List Nat := fun v c => keptM v c m
theorem plS_le (s : Sg) (q : Nat → Bool) (l : List Nat) (i : Nat) : (plS s q i l).length ≤ l.length := by rw [plS_len]; exact List.countP_le_length
theorem pl_le {W P : Nat} (q : Nat → Nat → Bool) : ∀ {m : List Sg} {a : Nat}, Fit W P a m → (pl q m).length + 16 * a ≤ 16 * P
  | [], a, h => by have h : a ≤ P := h; simp [pl]; omega
  | s :: l, a, h => by
    have h1 := pl_le q h.2.2
    have h2 := plS_le s (q s.cl) s.st 0
    have h3 := h.2.1.facts
    have h4 := h.1
    rw [pl, List.length_append]; omega
theorem Kof_ok {P W : Nat} {m : List Sg} (ho : Okc P W m) (v c : Nat) : (Kof m v c).Pairwise (· < ·) ∧ (Kof m v c).length ≤ 100000 :=
  ⟨pl_rises _ ho.fit, by have := pl_le (keptQ v c) ho.fit; have := ho.p1; show (pl (keptQ v c) m).length ≤ _; omega⟩
theorem live_slot {W P : Nat} {m : List Sg} (hf : Fit W P 0 m) {i j x : Nat} (hi : i < m.length) (hx : m[i].st[j]? = some x) : liveB m ((m[i].at j : Nat) : Int) = (decide (x ≠ 0) && !keepsB W (Kof m) m[i].cl ((m[i].at j : Nat) : Int)) := by
  have hin : In m (m[i].at j) m[i].z m[i].cl x := ⟨m[i], List.getElem_mem hi, j, hx, rfl, rfl, rfl⟩
  have hb := hin.bound hf
  have e1 : liveB m ((m[i].at j : Nat) : Int) = decide (x = 1) := by
    rw [Bool.eq_iff_iff, liveB_of hf, decide_eq_true_iff, Int.toNat_natCast]
    constructor
    · rintro ⟨_, z, c, h⟩
      exact (hin.one hf h).2.2
    · rintro rfl; exact ⟨by omega, _, _, hin⟩
  rw [e1]
  by_cases h0 : x = 0
  · subst h0; simp
  · by_cases h1 : x = 1
    · subst h1
      have : ¬ (m[i].cl < 7 ∧ ∃ v, v < W ∧ ∃ y ∈ Kof m v m[i].cl, (y : Int) = ((m[i].at j : Nat) : Int)) := by
        rintro ⟨_, v, hv, y, hy, e⟩
        have e : y = m[i].at j := by omega
        subst e
        obtain ⟨z, h⟩ := mem_keptM.1 hy
        have := (hin.one hf h).2.2
        omega
      rw [keepsB_false this]; rfl
    · have : m[i].cl < 7 ∧ ∃ v, v < W ∧ ∃ y ∈ Kof m v m[i].cl, (y : Int) = ((m[i].at j : Nat) : Int) := by
        refine ⟨?_, x - 2, by omega, m[i].at j, mem_keptM.2 ⟨m[i].z, ?_⟩, rfl⟩
        · have := hb.2.2.2; omega
        · rw [show x - 2 + 2 = x by omega]; exact hin
      rw [keepsB_true.2 this]; simp [h1]
theorem live_not {W P : Nat} {m : List Sg} (hf : Fit W P 0 m) {i : Nat} {x : Int} (h : FindM m x i) (hi : i < m.length) (hn : ∀ j, j < m[i].st.length → x ≠ ((m[i].at j : Nat) : Int)) : liveB m x = false := by
  refine liveB_no hf (fun ⟨h0, z, c, hin⟩ => ?_)
  have h' : FindM m ((x.toNat : Nat) : Int) i := by rw [Int.toNat_of_nonneg h0]; exact h
  obtain ⟨j, h1, h2, _⟩ := (h'.in hf hi).1 hin
  exact hn j (List.getElem?_eq_some_iff.1 h1).1 (by omega)
theorem live_out {W P : Nat} {m : List Sg} (hf : Fit W P 0 m) {x : Int} (h : FindM m x m.length) : liveB m x = false := by
  refine liveB_no hf (fun ⟨h0, z, c, hin⟩ => ?_)
  have h' : FindM m ((x.toNat : Nat) : Int) m.length := by rw [Int.toNat_of_nonneg h0]; exact h
  exact h'.none hf hin
set_option maxHeartbeats 2000000 in
theorem klive_any (L : Nat → Nat) (cb fb hb : Nat) (a : Option Addr) (cap : Nat) (ps : List Nat) (sh : List Value) (P W : Nat) (φ : Nat → Bool) (m : List Sg) (x : Int) (w : World) (h : Cm w L cb fb hb a cap ps sh P W φ m (Kof m)) (ho : Okc P W m) (hx : -9223372036854775808 ≤ x ∧ x ≤ 9223372036854775807) (r : Bool) (hr : liveB m x = r) :
    Calls Tryz.prog 21 #[.pointer (some ⟨cb, 0, none⟩), .int .i64 x] w fun e w' => e = .returned (.bool r) ∧ Below w.heap.size w w' := by
  have HC : Hid (Cm w L cb fb hb a cap ps sh P W φ m (Kof m)) := h
  have HO : Hid (Okc P W m) := ho
  have HR : Hid (liveB m x = r) := hr
  have hml := ho.fit.len
  have hP := ho.p1
  clear h ho hr
  go_enter Tryz.func21, Tryz.ntmps21
  go_wp2_with fail
  refine (kfind_any L cb fb hb a cap ps sh P W φ m _ x _ HC.out HO.out).mono ?_
  rintro e w1 ⟨i, hF, rfl, b1⟩
  have HF : Hid (FindM m x i) := hF
  have B1 : Hid (Below w.heap.size w w1) := b1
  have C1 : Hid (Cm w1 L cb fb hb a cap ps sh P W φ m (Kof m)) := HC.out.keep (Ext.refl _ _) b1
  have hle := hF.1
  have c1 := C1.out.cell1
  clear hF b1
  by_cases hi : i = m.length
  · have ER : Hid (r = false) := by show r = false; rw [← HR.out]; exact live_out HO.out.fit (by rw [← hi]; exact HF.out)
    have hq : ((i : Int) == (m.length : Int)) = true := by rw [beq_iff_eq]; omega
    go_wp2
    go_ret
    exact ⟨by rw [ER.out]; rfl, B1.out⟩
  · have hq : ((i : Int) == (m.length : Int)) = false := beq_eq_false_iff_ne.2 (by omega)
    have hil : i < m.length := by omega
    obtain ⟨g, p, rfl, _, _, k1, _, bb, gg, k2, _⟩ := C1.out.at i hil
    have RT0 := Sg.Ok.rt HO.out.fit HO.out.p1 (List.getElem_mem hil)
    have OK0 := (HO.out.fit.ok _ (List.getElem_mem hil)).1
    obtain ⟨s, hs⟩ : ∃ s, m[i] = s := ⟨_, rfl⟩
    have ES : Hid (m[i] = s) := hs
    rw [hs] at k2 RT0 OK0
    have KS : Hid (SpanAt w1 p bb gg (s.pg : Int) (s.cl : Int) (s.bts : Int) s.f) := k2
    have RT : Hid (Rt (s.pg : Int) (s.cl : Int) (s.bts : Int)) := RT0
    have OK : Hid (s.Ok W) := OK0
    have hi' : (i : Int) < (m.length : Int) := by omega
    have hi0 : (0 : Int) ≤ (i : Int) := by omega
    clear k2 RT0 OK0 hs
    go_wp2_with fail
    refine (slot_any p _ _ _ x _ KS.out.box C1.out.tab.1 RT.out hx).mono ?_
    rintro e w2 ⟨y, ok, rfl, hS, rfl⟩
    have EZ : Hid (szI (s.cl : Int) (s.bts : Int) = (s.z : Int)) := OK.out.facts.2.2.2.2.2.2.2
    have EL : Hid (slN (s.cl : Int) = s.st.length) := OK.out.len.symm
    rw [EZ.out, EL.out] at hS
    rcases hS with ⟨rfl, j, hj, rfl, hxj⟩ | ⟨rfl, rfl, hno⟩
    · have hxe : x = ((s.at j : Nat) : Int) := by rw [hxj]; unfold Sg.at; rw [Int.natCast_add, Int.natCast_mul, Int.natCast_mul]; rfl
      obtain ⟨y, hy⟩ : ∃ y, s.st[j]? = some y := ⟨_, List.getElem?_eq_getElem hj⟩
      have HF : Hid (hasB (slN (s.cl : Int)) s.f (j : Int) = decide (y ≠ 0)) := by
        show _ = _
        rw [EL.out]
        unfold hasB isP
        rw [Int.toNat_natCast, Sg.f_at hy]
        simp; omega
      have ER : Hid (r = (decide (y ≠ 0) && !keepsB W (Kof m) s.cl x)) := by
        show _ = _
        rw [← HR.out, hxe]; have := live_slot HO.out.fit hil (j := j) (x := y) (by rw [ES.out]; exact hy); rw [ES.out] at this; exact this
      obtain ⟨q, hq'⟩ : ∃ q, keepsB W (Kof m) s.cl x = q := ⟨_, rfl⟩
      have HQ : Hid (keepsB W (Kof m) s.cl x = q) := hq'
      rw [hq'] at ER
      clear hxj hxe hy hq'
      cases hy0 : decide (y ≠ 0)
      · have HY : Hid (decide (y ≠ 0) = false) := hy0
        clear hy0
        go_wp2_with (go_at_call 51; refine (has_any p bb gg _ _ _ s.f (j : Int) _ KS.out).mono ?_; rw [HF.out, HY.out]; rintro e w2 ⟨rfl, rfl⟩)
        go_ret
        exact ⟨by rw [ER.out, HY.out]; rfl, B1.out⟩
      · have HY : Hid (decide (y ≠ 0) = true) := hy0
        clear hy0
        go_wp2_with (first
          | (go_at_call 51; refine (has_any p bb gg _ _ _ s.f (j : Int) _ KS.out).mono ?_; rw [HF.out, HY.out]; rintro e w2 ⟨rfl, rfl⟩)
          | (go_at_call 53; refine (class_any p _ _ _ _ KS.out.box).mono ?_; rintro e w2 ⟨rfl, rfl⟩)
          | (go_at_call 52; refine (kkeeps_any L cb fb hb _ cap ps sh P W φ m _ s.cl x _ C1.out HO.out.w1 OK.out.c7 (fun v hv hc => Kof_ok HO.out v _) q HQ.out).mono ?_; rintro e w2 ⟨rfl, rfl⟩))
        go_ret
        exact ⟨by rw [ER.out, HY.out]; simp, B1.out⟩
    · have ER : Hid (r = false) := by
        show r = false
        rw [← HR.out]
        refine live_not HO.out.fit HF.out hil (fun j hj e => hno j (by rw [ES.out] at hj; exact hj) ?_)
        rw [e, ES.out]; unfold Sg.at; rw [Int.natCast_add, Int.natCast_mul, Int.natCast_mul]; rfl
      clear hno
      go_wp2
      go_ret
      exact ⟨by rw [ER.out]; rfl, B1.out⟩
end Go.Proofs.YtgmljgogmbaioaaGreatDoor
