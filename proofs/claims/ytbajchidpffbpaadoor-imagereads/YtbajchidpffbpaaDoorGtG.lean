/- Layer 17: NumRs again -/
import Derived.Test.YtbajchidpffbpaaDoorJrRoF
import Derived.Test.YtbajchidpffbpaaDoorJrRoE
import Derived.Test.YtbajchidpffbpaaDoorJrRoI
import Derived.Test.YtbajchidpffbpaaDoorGtC
namespace Go.Proofs.YtbajchidpffbpaaDoor
open Go.RowKit
set_option linter.unusedVariables false
set_option maxRecDepth 4000
theorem cells_news {w : World} {a : Addr} {l : List Int} (h : IsB w (some a) l) : ∀ j u, (l.map (Value.int .u8))[j]? = some u → w.cell? (a.add j) = some u := by
  intro j u hj
  have hj' : j < l.length := by
    have := (List.getElem?_eq_some_iff.1 hj).1
    simpa using this
  obtain ⟨_, rfl | ⟨b, off, e, _, hc⟩⟩ := h
  · simp at hj'
  · cases e
    rw [addr_add, hc j hj', ← hj]
    simp [List.getD, hj']

theorem news_one (l : List Int) : ∀ u ∈ l.map (Value.int .u8), u.oneCell' = true := by
  intro u hu
  obtain ⟨x, _, rfl⟩ := List.mem_map.1 hu
  rfl

theorem isB_set {w : World} {a : Option Addr} {l : List Int} (h : IsB w a l) (M o : Nat) (v : Value) (hne : ∀ b off, a = some ⟨b, off, none⟩ → b ≠ M) : IsB (w.setCell ⟨M, o, none⟩ v) a l := by
  obtain ⟨h1, h2 | ⟨b, off, e, hs, hc⟩⟩ := h
  · exact ⟨h1, .inl h2⟩
  · refine ⟨h1, .inr ⟨b, off, e, by show b < (w.heap.modify _ _).size; simp; omega, fun i hi => ?_⟩⟩
    rw [cell_far _ _ _ _ _ _ (hne b off e)]
    exact hc i hi

theorem rbytes_none (lo M : Nat) (l : List Int) (e N : Int) (w : World) (h : RfAt w lo M l e) (hN : e ≠ 0 ∨ N ≤ 0) :
    Calls Tryd.prog 52 #[.pointer (some ⟨M, 0, none⟩), .int .i64 N] w fun r w' => r = .returned (.slice none 0 0) ∧ w = w' := by
  obtain ⟨a, cap, c1, c2, c3, c4, _, _, _⟩ := rf_parts h
  clear h
  by_cases he : e = 0
  · subst he
    have hN' : N ≤ 0 := by omega
    go_enter Tryd.func52, Tryd.ntmps52
    go_wp2
    go_ret
    exact ⟨rfl, rfl⟩
  · have hq : (e != 0) = true := by rw [bne_iff_ne]; exact he
    go_enter Tryd.func52, Tryd.ntmps52
    go_wp2
    go_ret
    exact ⟨rfl, rfl⟩

theorem rbytes_short (lo M : Nat) (l : List Int) (N : Int) (w : World) (h : RfAt w lo M l 0) (hN : 0 < N) (hl : (l.length : Int) < N) :
    Calls Tryd.prog 52 #[.pointer (some ⟨M, 0, none⟩), .int .i64 N] w fun r w' => r = .returned (.slice none 0 0) ∧ RfAt w' lo M l 3 ∧ w.grownBy w' (some M) := by
  obtain ⟨a, cap, c1, c2, c3, c4, _, _, _⟩ := rf_parts h
  have HR : Hid (RfAt w lo M l 0) := h
  clear h
  go_enter Tryd.func52, Tryd.ntmps52
  go_wp2
  go_ret
  exact ⟨rfl, rf_set HR.out 3, grown_set _ _ _⟩

set_option maxHeartbeats 2000000 in
theorem rbytes_some (lo M K : Nat) (l : List Int) (w : World) (h : RfAt w lo M l 0) (hK : 0 < K) (hl : K ≤ l.length) (hbig : l.length ≤ 140737488355328) :
    Calls Tryd.prog 52 #[.pointer (some ⟨M, 0, none⟩), .int .i64 K] w fun r w' => ∃ a cap, r = .returned (.slice a K cap) ∧ IsB w' a (l.take K) ∧ RfAt w' lo M (l.drop K) 0 ∧ w.grownBy w' (some M) ∧ (∀ ad, a = some ad → w.heap.size ≤ ad.block) := by
  obtain ⟨i0, hi, hz0, hz1, hz2⟩ := info_parts Tryd.info5
  obtain ⟨a, cap, hh, h1, h2, h3, h4⟩ := h
  obtain ⟨c1, c2, c3, c4⟩ := cell_two hh
  rcases h4 with rfl | ⟨b, off, rfl, hlo, hbM, hc⟩
  · simp at hl; omega
  have hM := lt_of_block hh
  have h2' := h2
  unfold maxLen at h2'
  have kI : (K : Int) ≤ (l.length : Int) := by omega
  have kI0 : (0 : Int) < (K : Int) := by omega
  have kC : (K : Int) ≤ (cap : Int) := by omega
  have HC : Hid (∀ i, i < l.length → w.cell? ⟨b, off + i, none⟩ = some (.int .u8 (l.getD i 0))) := hc
  have HH : Hid (w.heap[M]? = some (.cells #[.slice (some ⟨b, off, none⟩) l.length cap, .int .i64 0] 84 (0, 0))) := hh
  have HT : Hid (IsB (w.alloc (.cells #[] 5)) (some ⟨b, off, none⟩) (l.take K)) := by
    refine ⟨fun x hx => h3 x (List.mem_of_mem_take hx), .inr ⟨b, off, rfl, by simp; omega, fun i hi => ?_⟩⟩
    rw [List.length_take] at hi
    rw [Lib.cell?_alloc_some _ (hc i (by omega))]
    simp [List.getD, show i < K by omega]
  have tl : (l.take K).length = K := by rw [List.length_take]; omega
  have TL : Hid ((l.take K).length = K) := tl
  clear hc hh tl
  by_cases hck : cap = K
  all_goals
    go_enter Tryd.func52, Tryd.ntmps52
    go_wp2_with (at_builtin; refine wpList_append_own _ rfl (.tmp 25) (.tmp 31) 25 rfl w.heap.size 5 i0 (.int .u8 0) 1 1 Tryd.underlying25 hi hz0 hz1 hz2 rfl (by decide) _ _ _ rfl (World.ownsRow_made w #[] 0 (Nat.le_refl _) (Nat.zero_le _) rfl) ⟨b, off, none⟩ K _ ((l.take K).map (Value.int .u8)) rfl (by rw [List.length_map, TL.out]; omega) (cells_news HT.out) (news_one _) (by unfold maxLen; omega) (by omega) (by simp) ?_)
    intro v' w1 hown hgrow hnil
    have hb1 : Below w.heap.size w w1 := ((Below.refl _ w).alloc (Nat.le_refl _) _).grown hgrow (by simp) (by intro k hk; simp [Value.ownBlock] at hk; omega)
    have hown' : w1.ownsRow w.heap.size 5 1 v' K ((l.take K).map (Value.int .u8)) := by simpa using hown
    obtain ⟨g, c, hv, hg1, hg2, hc1, hc2, hcell⟩ := owns_parts TL.out hown' (by simpa using hnil)
    have I1 : Hid (IsB w1 (some ⟨g, 0, none⟩) (l.take K)) := ⟨fun x hx => h3 x (List.mem_of_mem_take hx), .inr ⟨g, 0, rfl, hg2, fun i hi => by rw [Nat.zero_add]; exact hcell i hi⟩⟩
    have hh1 := (hb1.block M hM).trans HH.out
    obtain ⟨d1, d2, d3, d4⟩ := cell_two hh1
    have HH1 : Hid (w1.heap[M]? = some (.cells #[.slice (some ⟨b, off, none⟩) l.length cap, .int .i64 0] 84 (0, 0))) := hh1
    have HC1 : Hid (∀ i, i < l.length → w1.cell? ⟨b, off + i, none⟩ = some (.int .u8 (l.getD i 0))) := fun i hi => by
      rw [hb1.cell (p := ⟨b, off + i, none⟩) (by show b < _; omega)]; exact HC.out i hi
    rw [hv]
    clear hown hown' hnil hgrow hcell hv hh1
    go_wp2
    go_ret
    have gs := grown_then (grown_below hb1 (some M)) (Below.refl _ _)
    first
      | (refine ⟨some ⟨g, 0, none⟩, c, rfl, isB_set I1.out M 0 _ (by intro b' o' e'; cases e'; omega), rf_cut (a' := some ⟨b, off + K, none⟩) HH1.out h1 h2 h3 hlo hbM HC1.out hl (.inr rfl), grown_two gs (grown_set _ _ _), fun ad e' => by cases e'; exact hg1⟩)
      | (refine ⟨some ⟨g, 0, none⟩, c, rfl, isB_set I1.out M 0 _ (by intro b' o' e'; cases e'; omega), ?_, grown_two gs (grown_set _ _ _), fun ad e' => by cases e'; exact hg1⟩
         have := rf_cut (k := K) (a' := some ⟨b, off, none⟩) HH1.out h1 h2 h3 hlo hbM HC1.out hl (.inl (by omega))
         simpa [hck] using this)
end Go.Proofs.YtbajchidpffbpaaDoor

/- Layer 17: NumRt again -/
namespace Go.Proofs.YtbajchidpffbpaaDoor
open Go.RowKit
set_option linter.unusedVariables false
set_option maxRecDepth 4000
theorem rbytes_any (lo M : Nat) (l : List Int) (e N L : Int) (w : World) (h : RfAt w lo M l e) (hL : N < 0 ∧ L = 0 ∨ N = 0 ∧ L = 0 ∨ 0 < N ∧ L = N) (hbig : l.length ≤ 140737488355328) :
    Calls Tryd.prog 52 #[.pointer (some ⟨M, 0, none⟩), .int .i64 N] w fun r w' => ∃ a cap, r = .returned (.slice a (bsS l e L.toNat).1.length cap) ∧ IsB w' a (bsS l e L.toNat).1 ∧ RfAt w' lo M (bsS l e L.toNat).2.1 (bsS l e L.toNat).2.2 ∧ w.grownBy w' (some M) ∧ (∀ ad, a = some ad → w.heap.size ≤ ad.block) := by
  by_cases he : e = 0
  · subst he
    by_cases hN : N ≤ 0
    · refine (rbytes_none lo M l 0 N w h (.inr hN)).mono ?_
      rintro r w' ⟨rfl, rfl⟩
      have : L.toNat = 0 := by omega
      rw [this, bsS, if_pos rfl, if_pos (Nat.zero_le _)]
      exact ⟨none, 0, rfl, ⟨by simp, .inl rfl⟩, h, World.grownBy.refl _ _, fun ad h => by cases h⟩
    · obtain ⟨K, hK⟩ : ∃ K : Nat, N = K := ⟨N.toNat, by omega⟩
      have hLK : L.toNat = K := by omega
      rw [hLK, hK]
      by_cases hl : K ≤ l.length
      · refine (rbytes_some lo M K l w h (by omega) hl hbig).mono ?_
        rintro r w' ⟨a, cap, rfl, i1, r1, g1, q1⟩
        rw [bsS, if_pos rfl, if_pos hl]
        exact ⟨a, cap, ret_slice (by rw [List.length_take]; omega), i1, r1, g1, q1⟩
      · refine (rbytes_short lo M l K w h (by omega) (by omega)).mono ?_
        rintro r w' ⟨rfl, r1, g1⟩
        rw [bsS, if_pos rfl, if_neg hl]
        exact ⟨none, 0, rfl, ⟨by simp, .inl rfl⟩, r1, g1, fun ad h => by cases h⟩
  · refine (rbytes_none lo M l e N w h (.inl he)).mono ?_
    rintro r w' ⟨rfl, rfl⟩
    rw [bsS, if_neg he]
    exact ⟨none, 0, rfl, ⟨by simp, .inl rfl⟩, h, World.grownBy.refl _ _, fun ad h => by cases h⟩

theorem bs_len (l : List Int) (e : Int) (K : Nat) : (bsS l e K).1.length ≤ K := by
  rw [bsS]
  split
  · split
    · rw [List.length_take]; omega
    · simp
  · simp

end Go.Proofs.YtbajchidpffbpaaDoor
