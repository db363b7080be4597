/- The document's own answers of layer 6: Size, Of, Slots, Pages. -/
import Derived.Test.YtgmljgogmbaioaaGreatDoorSpA
import Derived.Test.YtgmljgogmbaioaaGreatDoorSpUN
namespace Go.Proofs.YtgmljgogmbaioaaGreatDoor
open Go.RowKit
set_option linter.unusedVariables false
set_option maxRecDepth 4000

/-- Seven counts as the cells of an array. -/
def cells7 (f : Nat → Nat) : Array Value := #[.int .i64 (f 0 : Nat), .int .i64 (f 1 : Nat), .int .i64 (f 2 : Nat), .int .i64 (f 3 : Nat), .int .i64 (f 4 : Nat), .int .i64 (f 5 : Nat), .int .i64 (f 6 : Nat)]
theorem cells7_at (f : Nat → Nat) (k : Nat) (h : k < 7) : (cells7 f)[k]? = some (.int .i64 (f k : Nat)) := by
  rcases k with _ | _ | _ | _ | _ | _ | _ | k <;> first | rfl | omega
theorem size_arr : (Tryz.prog.info? 127).map (·.size) = some 7 := by kernel_rfl
theorem index_arr (f : Nat → Nat) (k : Nat) (hk : k < 7) (w : World) :
    (Instr.index 127 (.agg (cells7 f)) (.int .i64 (k : Nat))).run Tryz.prog w = .ok (.int .i64 ((f k : Nat) : Int)) w := by
  have e := cells7_at f k hk
  simp [Instr.index, asIntOf, Sem.run_bind, run_underlying Tryz.underlying127, hk, Tryz.sizeOf3, part, Tryz.isAgg3, e]


theorem seven (c : Nat) (h : c < 7) : c = 0 ∨ c = 1 ∨ c = 2 ∨ c = 3 ∨ c = 4 ∨ c = 5 ∨ c = 6 := by omega
theorem qindex (c : Nat) (h : c < 7) (w : World) :
    (Instr.index 127 (.agg #[.int .i64 16, .int .i64 24, .int .i64 32, .int .i64 48, .int .i64 64, .int .i64 96, .int .i64 128]) (.int .i64 (c : Nat))).run Tryz.prog w = .ok (.int .i64 ((sizeN c : Nat) : Int)) w := index_arr sizeN c h w
theorem qsize_small (c : Nat) (w : World) (h : c < 7) :
    Calls Tryz.prog 63 #[.int .i64 (c : Nat)] w fun e w' => e = .returned (.int .i64 (sizeN c : Nat)) ∧ w = w' := by
  have hidx := qindex c h
  go_enter Tryz.func63, Tryz.ntmps63
  go_wp2
  go_ret
  exact ⟨rfl, rfl⟩
theorem qsize_any (c : Int) (w : World) :
    Calls Tryz.prog 63 #[.int .i64 c] w fun e w' => e = .returned (.int .i64 (sizeI c)) ∧ w = w' := by
  by_cases hs : 0 ≤ c ∧ c < 7
  · obtain ⟨k, rfl⟩ : ∃ k : Nat, c = k := ⟨c.toNat, by omega⟩
    have hk : k < 7 := by omega
    have e : sizeI (k : Int) = ((sizeN k : Nat) : Int) := by
      rcases k with _ | _ | _ | _ | _ | _ | _ | k <;> first | rfl | omega
    rw [e]
    exact qsize_small k w hk
  · rw [show sizeI c = 0 by unfold sizeI; repeat' split <;> omega]
    rcases (by omega : c < 0 ∨ 6 < c) with h | h
    all_goals
      clear hs
      go_enter Tryz.func63, Tryz.ntmps63
      go_wp2
      go_ret
      exact ⟨rfl, rfl⟩
theorem sizeN_le (c : Nat) : sizeN c ≤ 128 := by
  rcases c with _ | _ | _ | _ | _ | _ | _ | c <;> simp [sizeN]
theorem of_found (n : Nat) (c : Nat) (h1 : 1 ≤ n) (h2 : n ≤ 4096) (hc : c < 7) (hb : ∀ j, j < c → sizeN j < n) (hn : n ≤ sizeN c) : ofI n = c := by
  have s0 : sizeN 0 = 16 := rfl
  have s1 : sizeN 1 = 24 := rfl
  have s2 : sizeN 2 = 32 := rfl
  have s3 : sizeN 3 = 48 := rfl
  have s4 : sizeN 4 = 64 := rfl
  have s5 : sizeN 5 = 96 := rfl
  have s6 : sizeN 6 = 128 := rfl
  have := ofI_cases n
  rcases seven c hc with rfl | rfl | rfl | rfl | rfl | rfl | rfl
  · omega
  · have := hb 0 (by decide); omega
  · have := hb 1 (by decide); omega
  · have := hb 2 (by decide); omega
  · have := hb 3 (by decide); omega
  · have := hb 4 (by decide); omega
  · have := hb 5 (by decide); omega
theorem of_past (n : Nat) (h1 : 1 ≤ n) (h2 : n ≤ 4096) (hb : ∀ j, j < 7 → sizeN j < n) : ofI n = 7 := by
  have := hb 6 (by decide)
  rw [show sizeN 6 = 128 from rfl] at this
  have := ofI_cases n
  omega
theorem qof_any (n : Int) (w : World) :
    Calls Tryz.prog 27 #[.int .i64 n] w fun e w' => e = .returned (.int .i64 (ofI n)) ∧ w = w' := by
  by_cases hb : n < 1 ∨ 4096 < n
  · rw [show ofI n = -1 by have := ofI_cases n; omega]
    rcases hb with h | h
    all_goals
      go_enter Tryz.func27, Tryz.ntmps27
      go_wp2
      go_ret
      exact ⟨rfl, rfl⟩
  · obtain ⟨m, rfl⟩ : ∃ m : Nat, n = m := ⟨n.toNat, by omega⟩
    have h1 : 1 ≤ m := by omega
    have h2 : m ≤ 4096 := by omega
    obtain ⟨r, hr⟩ : ∃ r, ofI (m : Int) = r := ⟨_, rfl⟩
    have HR : Hid (ofI (m : Int) = r) := hr
    rw [hr]
    clear hb hr
    go_enter Tryz.func27, Tryz.ntmps27
    go_wp2
    go_loop [3] (fun iv => ∃ c : Nat, c ≤ 7 ∧ iv = .int .i64 (c : Nat) ∧ ∀ j, j < c → sizeN j < m) (fun iv => 7 - (intOf iv).toNat)
    case atStart => exact ⟨0, Nat.zero_le _, rfl, by simp⟩
    case round =>
      obtain ⟨c, hc, rfl, hrel⟩ := hrel
      have R : Hid (∀ j, j < c → sizeN j < m) := hrel
      have hle := sizeN_le c
      clear hrel
      by_cases h7 : c < 7
      · by_cases hf : m ≤ sizeN c
        · have E : Hid (r = (c : Int)) := by rw [← HR.out]; exact of_found m c h1 h2 h7 R.out hf
          go_wp2_with (go_at_call 63; refine (qsize_small c _ h7).mono ?_; rintro e w' ⟨rfl, rfl⟩)
          go_ret
          exact ⟨ret_int E.out.symm, rfl⟩
        · go_wp2_with (go_at_call 63; refine (qsize_small c _ h7).mono ?_; rintro e w' ⟨rfl, rfl⟩)
          go_round
          case rel =>
            refine ⟨c + 1, by omega, by go_num, fun j hj => ?_⟩
            rcases Nat.lt_or_ge j c with h | h
            · exact R.out j h
            · obtain rfl : j = c := by omega
              omega
          case measure => simp [intOf]; omega
      · obtain rfl : c = 7 := by omega
        have E : Hid (r = 7) := by rw [← HR.out]; exact of_past m h1 h2 R.out
        go_wp2
        go_ret
        exact ⟨ret_int E.out.symm, rfl⟩
theorem qslots_small (c : Nat) (w : World) (h : c < 7) :
    Calls Tryz.prog 30 #[.int .i64 (c : Nat)] w fun e w' => e = .returned (.int .i64 (slotsN c : Nat)) ∧ w = w' := by
  have e : ((256 : Int).tdiv ((sizeN c : Nat) : Int)) = ((slotsN c : Nat) : Int) := by
    rcases c with _ | _ | _ | _ | _ | _ | _ | c <;> first | rfl | omega
  have hp : 16 ≤ sizeN c ∧ sizeN c ≤ 128 := by
    rcases c with _ | _ | _ | _ | _ | _ | _ | c <;> first | decide | omega
  have hq := slotsN_pos c h
  go_enter Tryz.func30, Tryz.ntmps30
  go_wp2_with (go_at_call 63; refine (qsize_small c _ h).mono ?_; rintro e w' ⟨rfl, rfl⟩)
  go_ret
  exact ⟨rfl, rfl⟩
theorem qslots_any (c : Int) (w : World) :
    Calls Tryz.prog 30 #[.int .i64 c] w fun e w' => e = .returned (.int .i64 (slotsI c)) ∧ w = w' := by
  by_cases hs : 0 ≤ c ∧ c < 7
  · obtain ⟨k, rfl⟩ : ∃ k : Nat, c = k := ⟨c.toNat, by omega⟩
    have e : slotsI (k : Int) = ((slotsN k : Nat) : Int) := by
      have hk : k < 7 := by omega
      rcases k with _ | _ | _ | _ | _ | _ | _ | k <;> first | rfl | omega
    rw [e]
    exact qslots_small k w (by omega)
  · by_cases h7 : c = 7
    · subst h7
      rw [show slotsI 7 = 1 from rfl]
      clear hs
      go_enter Tryz.func30, Tryz.ntmps30
      go_wp2
      go_ret
      exact ⟨rfl, rfl⟩
    · rw [show slotsI c = 0 by unfold slotsI; repeat' split <;> omega]
      have hz : sizeI c = 0 := by unfold sizeI; repeat' split <;> omega
      have h7' : (c == 7) = false := by simp [h7]
      clear hs
      go_enter Tryz.func30, Tryz.ntmps30
      go_wp2_with (go_at_call 63; refine (qsize_any c _).mono ?_; rw [hz]; rintro e w' ⟨rfl, rfl⟩)
      go_ret
      exact ⟨rfl, rfl⟩
theorem qpages_any (n : Int) (w : World) :
    Calls Tryz.prog 29 #[.int .i64 n] w fun e w' => e = .returned (.int .i64 (pagesN n : Nat)) ∧ w = w' := by
  have hr := ofI_range n
  by_cases h1 : ofI n = -1
  · rw [pagesN_none h1]
    go_enter Tryz.func29, Tryz.ntmps29
    go_wp2_with (go_at_call 27; refine (qof_any n _).mono ?_; rw [h1]; rintro e w' ⟨rfl, rfl⟩)
    go_ret
    exact ⟨rfl, rfl⟩
  · by_cases h7 : ofI n = 7
    · obtain ⟨E, k1, k2⟩ := pagesN_large h7
      obtain ⟨m, rfl⟩ : ∃ m : Nat, n = m := ⟨n.toNat, by omega⟩
      have E' : Hid (pagesN (m : Int) = (m + 255) / 256) := by show _ = _; rw [E]; simp
      rw [E'.out]
      clear E
      go_enter Tryz.func29, Tryz.ntmps29
      go_wp2_with (go_at_call 27; refine (qof_any (m : Int) _).mono ?_; rw [h7]; rintro e w' ⟨rfl, rfl⟩)
      go_ret
      exact ⟨ret_int (by omega), rfl⟩
    · rw [pagesN_small (by omega) (by omega)]
      obtain ⟨c, hc⟩ : ∃ c, ofI n = c := ⟨_, rfl⟩
      rw [hc] at h1 h7 hr
      have hc0 : 0 ≤ c := by omega
      have hc7 : c < 7 := by omega
      have HC : Hid (ofI n = c) := hc
      clear hc h1 h7 hr
      go_enter Tryz.func29, Tryz.ntmps29
      go_wp2_with (go_at_call 27; refine (qof_any n _).mono ?_; rw [HC.out]; rintro e w' ⟨rfl, rfl⟩)
      go_ret
      exact ⟨rfl, rfl⟩
end Go.Proofs.YtgmljgogmbaioaaGreatDoor

/- What SpanBack stands on: lists turned one by one beside a span. -/
namespace Go.Proofs.YtgmljgogmbaioaaGreatDoor
open Go.RowKit
set_option linter.unusedVariables false
set_option maxRecDepth 4000

theorem heap_put {w : World} {g j : Nat} {v : Value} {cs : Array Value} {t : TypeId} (h : w.heap[g]? = some (.cells cs t (0, 0))) : (w.setCell ⟨g, j, none⟩ v).heap[g]? = some (.cells (cs.setIfInBounds j v) t (0, 0)) := by
  simp only [World.setCell, Array.getElem?_modify, h]
  simp
theorem lay4_row {w : World} {g : Nat} {p c s p0 c0 s0 : Int} {a a0 : Option Addr} {n k n0 k0 : Nat} (h : w.heap[g]? = some (.cells (dcells p0 c0 s0 a0 n0 k0) 48 (0, 0))) : (lay4 w g p c s (.slice a n k)).heap[g]? = some (.cells (dcells p c s a n k) 48 (0, 0)) := by
  unfold lay4
  rw [heap_put (heap_put (heap_put (heap_put h)))]
  simp [dcells]

/-- Numbers turned in a list of one's own: the list's block alone is another. -/
theorem OwnsI.turned {w : World} {lb c g : Nat} {l : List Int} (h : OwnsI w lb (some ⟨g, 0, none⟩) l c) (i : Nat) (v : Int) : OwnsI (w.setCell ⟨g, i, none⟩ (.int .i64 v)) lb (some ⟨g, 0, none⟩) (l.set i v) c := by
  obtain ⟨h0, ⟨h1, _⟩ | ⟨q, c', cur, h1, hg1, h2, h3, h4, h5, h6⟩⟩ := h
  · cases h1
  · cases h1
    refine ⟨by simp, .inr ⟨g, c, cur.setIfInBounds i (.int .i64 v), by simp, hg1, heap_put h2, by simpa using h3, h4, by simpa using h5, ?_⟩⟩
    simp only [List.length_set, Array.toList_setIfInBounds, List.map_set]
    rw [List.take_set, h6]
theorem OwnsI.num {w : World} {lb c : Nat} {a : Option Addr} {l : List Int} (h : OwnsI w lb a l c) (i : Nat) (hi : i < l.length) : ∃ g v, a = some ⟨g, 0, none⟩ ∧ lb ≤ g ∧ w.cell? ⟨g, i, none⟩ = some (.int .i64 v) ∧ w.frozen? ⟨g, i, none⟩ = false ∧ ∃ cur, w.heap[g]? = some (.cells cur 3 (0, 0)) := by
  have h' := h
  obtain ⟨_, ⟨h1, h2⟩ | ⟨q, c', cur, h1, hg1, h2, _⟩⟩ := h
  · exfalso; have : l.length = 0 := h2; omega
  · cases h1
    have := World.ownsRow.cellAt h' i (by omega)
    refine ⟨q, l[i], rfl, hg1, ?_, frozen_of_row _ _ i _ _ h2, cur, h2⟩
    rw [this]
    simp [hi]
theorem box_on {w w' : World} {g b : Nat} {T : TypeId} {cs cur : Array Value} (h : w.heap[b]? = some (.cells cs T (0, 0))) (hg : w.heap[g]? = some (.cells cur 3 (0, 0))) (hT : T ≠ 3) (on : Only g w w') : w'.heap[b]? = some (.cells cs T (0, 0)) := by
  rw [on.block b (fun e => by subst e; rw [h] at hg; simp at hg; exact hT hg.2)]
  exact h
theorem IsI.on {w w' : World} {g : Nat} {a : Option Addr} {l : List Int} (h : IsI w a l) (on : Only g w w') (hne : ∀ ad, a = some ad → ad.block ≠ g) : IsI w' a l := by
  obtain ⟨h1, h2 | ⟨b, off, e, hs, hc⟩⟩ := h
  · exact ⟨h1, .inl h2⟩
  · refine ⟨h1, .inr ⟨b, off, e, by rw [on.size]; exact hs, fun i hi => ?_⟩⟩
    rw [on.cell (p := ⟨b, off + i, none⟩) (hne ⟨b, off, none⟩ e)]; exact hc i hi
theorem IsI.lt {w : World} {a : Option Addr} {l : List Int} (h : IsI w a l) (hl : l ≠ []) : ∀ ad, a = some ad → ad.block < w.heap.size := by
  intro ad hd
  obtain ⟨_, h2 | ⟨b, off, e, hs, _⟩⟩ := h
  · exact absurd h2 hl
  · rw [e] at hd; cases hd; exact hs

/-- A list that is turned, in its box, beside a span and a list that stays. -/
structure Bk (w W : World) (sb b g : Nat) (p c s : Int) (f : Nat → Bool) (xb B : Nat) (ax : Option Addr) (cx : Nat) (mx l : List Int) (a2 : Option Addr) : Prop where
  sp : Spn w W sb b g p c s f
  box : W.heap[xb]? = some (.cells (dcells p c s ax l.length cx) 48 (0, 0))
  own : OwnsI W B ax mx cx
  ge : w.heap.size ≤ B
  len : mx.length = l.length
  live : IsI W a2 l
  ns : ∀ ad, ax = some ad → ad.block ≠ sb ∧ ad.block ≠ b ∧ ad.block ≠ g
  nl : l = [] ∨ ∀ ad ad2, ax = some ad → a2 = some ad2 → ad2.block ≠ ad.block
theorem Bk.turn {w W : World} {sb b g : Nat} {p c s : Int} {f : Nat → Bool} {xb B gx : Nat} {cx : Nat} {mx l : List Int} {a2 : Option Addr} (h : Bk w W sb b g p c s f xb B (some ⟨gx, 0, none⟩) cx mx l a2) (i : Nat) (hi : i < l.length) (v : Int) :
    Bk w (W.setCell ⟨gx, i, none⟩ (.int .i64 v)) sb b g p c s f xb B (some ⟨gx, 0, none⟩) cx (mx.set i v) l a2 := by
  obtain ⟨g', _, e, hB, _, _, cur, hg⟩ := h.own.num i (by rw [h.len]; exact hi)
  cases e
  have on := Only.set gx i (.int .i64 v) W
  obtain ⟨n1, n2, n3⟩ := h.ns _ rfl
  refine ⟨⟨h.sp.at'.beside on (fun e => n1 e.symm) (fun e => n2 e.symm) (fun e => n3 e.symm), h.sp.low.trans (on.below (Nat.le_trans h.ge hB)), h.sp.gs, h.sp.gb, h.sp.gg⟩, box_on h.box hg (by decide) on, h.own.turned i v, h.ge, by rw [List.length_set]; exact h.len, h.live.on on ?_, h.ns, h.nl⟩
  rcases h.nl with h0 | h0
  · rw [h0] at hi; simp at hi
  · exact fun ad hd => h0 _ ad rfl hd
theorem ints_true (a a' : Option Addr) (n n' cap cap' : Nat) (l : List Int) (w : World) (h : IsI w a l) (h' : IsI w a' l) (hn : n = l.length) (hn' : n' = l.length) (hm : l.length ≤ maxLen) :
    Calls Tryz.prog 43 #[.slice a n cap, .slice a' n' cap'] w fun e w' => e = .returned (.bool true) ∧ Below w.heap.size w w' := by
  refine (ints_any a a' n n' cap cap' l l w h h' hn hn' hm hm).mono ?_
  rintro e w' ⟨rfl, b⟩
  exact ⟨by simp, b⟩
/-- Of what fails. -/
theorem of_fail (p c s : Int) (a : Option Addr) (cap : Nat) (l : List Int) (x : Int) (w : World) (hT : Tabs w) (hI : IsI w a l) (hm : l.length ≤ maxLen) (hp : -9223372036854775808 ≤ p ∧ p ≤ 9223372036854775807) (h : (newE p c s = x ∧ x ≠ 0) ∨ (newE p c s = 0 ∧ okL (slN c) (-1) l = false ∧ x = 4)) :
    Calls Tryz.prog 78 #[.agg #[.int .i64 p, .int .i64 c, .int .i64 s, .slice a l.length cap]] w fun e w' => e = .returned (.tuple #[.pointer none, .int .i64 x]) ∧ Below w.heap.size w w' := by
  rcases h with ⟨h1, h2⟩ | ⟨h1, h2, rfl⟩
  · exact of_bad p c s a l.length cap w hT hp x h1 h2
  · exact of_form p c s a cap l w hT hI hm h1 h2
end Go.Proofs.YtgmljgogmbaioaaGreatDoor
