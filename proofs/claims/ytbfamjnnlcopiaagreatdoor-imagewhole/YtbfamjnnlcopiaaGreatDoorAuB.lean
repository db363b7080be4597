/- Kinds: memory and contracts, the code's and the document's -/
import Derived.Test.YtbfamjnnlcopiaaGreatDoorAuA
import Derived.Maps.AppendAt
namespace Go.Proofs.YtbfamjnnlcopiaaGreatDoor
open Go.RowKit
set_option linter.unusedVariables false
set_option maxRecDepth 4000

theorem drop_getD (l : List Int) (k : Nat) (h : k < l.length) : l.drop k = l.getD k 0 :: l.drop (k + 1) := by
  rw [List.drop_eq_getElem_cons h]; simp [List.getD, h]
/-- The pointer fields stand where they may, the first place for one being f. -/
def placedB (s : Int) : Int → List Int → Bool
  | _, [] => true
  | f, p :: l => decide (f ≤ p ∧ p ≤ s - 8 ∧ p % 8 = 0) && placedB s (p + 8) l
theorem placed_step (s f : Int) (l : List Int) (k : Nat) (h : k < l.length) : placedB s f (l.drop k) = (decide (f ≤ l.getD k 0 ∧ l.getD k 0 ≤ s - 8 ∧ l.getD k 0 % 8 = 0) && placedB s (l.getD k 0 + 8) (l.drop (k + 1))) := by
  rw [drop_getD l k h, placedB]
theorem placed_end (s f : Int) (l : List Int) (k : Nat) (h : l.length ≤ k) : placedB s f (l.drop k) = true := by
  rw [List.drop_eq_nil_of_le h, placedB]
/-- What is wrong with a kind. -/
def checkK (s : Int) (ps : List Int) : Int := if s < 1 ∨ 4096 < s then 2 else if 16 < ps.length then 6 else if placedB s 0 ps = true then 0 else 11
theorem check_two {s : Int} {ps : List Int} (h : s < 1 ∨ 4096 < s) : checkK s ps = 2 := if_pos h
theorem check_six {s : Int} {ps : List Int} (h : ¬ (s < 1 ∨ 4096 < s)) (h' : 16 < ps.length) : checkK s ps = 6 := by unfold checkK; rw [if_neg h, if_pos h']
theorem check_ok {s : Int} {ps : List Int} (h : ¬ (s < 1 ∨ 4096 < s)) (h' : ¬ 16 < ps.length) (p : placedB s 0 ps = true) : checkK s ps = 0 := by unfold checkK; rw [if_neg h, if_neg h', if_pos p]
theorem check_el {s : Int} {ps : List Int} (h : ¬ (s < 1 ∨ 4096 < s)) (h' : ¬ 16 < ps.length) (p : placedB s 0 ps = false) : checkK s ps = 11 := by unfold checkK; rw [if_neg h, if_neg h', if_neg (by rw [p]; decide)]
/-- The first place behind the field ahead. -/
def fromK (ps : List Int) (k : Nat) : Int := if k = 0 then 0 else ps.getD (k - 1) 0 + 8
theorem bcellK {w w' : World} {p : Addr} {v : Value} (hb : Below w.heap.size w w') (h : w.cell? p = some v) : w'.cell? p = some v := (hb.cell (World.block_lt_of_cell? w p h)).trans h
/-- An append whose run is known, in a region that draws. -/
theorem step_app {ops : Array Oper} {o : Oper} {a : Act} {K : Act → World → Prop} {Q : Exit → Act → World → Prop} {E : Prop} {w : World} (hgd : o.guard = none) (s x : Operand) (t : TypeId)
    (ho : o.op = .call { callee := .builtin .append, args := #[s, x], argTypes := #[t, t] }) (v1 v2 : Value) (hs : a.eval s = v1) (hx : a.eval x = v2) (v' : Value) (w' : World)
    (hr : (Builtin.append_ #[t, t] o.type #[v1, v2]).run Tryz.prog w = .ok v' w') (h : K (a.put o.dst v') w') :
    if Region.wanted o (yielded ops a.tmps) = true then Oper.wp Tryz.prog o a w K Q else E := by
  have hw : Region.wanted o (yielded ops a.tmps) = true := by simp [Region.wanted, hgd]
  rw [if_pos hw]
  unfold Oper.wp execOp
  simp only [ho, resolve, invoke, builtin, Sem.run_bind, Sem.run_pure, Result.andThen_ok, List.map_toArray, List.map_cons, List.map_nil, hs, hx, hr]
  exact h
/-- A kind in a box. -/
theorem box_below (w : World) (s : Int) (a : Option Addr) (n c : Nat) : Below w.heap.size w (w.alloc (.cells #[.int .i64 s, .slice a n c] 66)) := (Below.refl _ w).alloc (Nat.le_refl _) _
set_option maxHeartbeats 2000000 in
theorem placed_any (s : Int) (a : Option Addr) (c : Nat) (ps : List Int) (w : World) (hI : IsI w a ps) (hs : 1 ≤ s) (hs' : s ≤ 4096) (hn : ps.length ≤ 16) :
    Calls Tryz.prog 136 #[.agg #[.int .i64 s, .slice a ps.length c]] w fun e w' => e = .returned (.bool (placedB s 0 ps)) ∧ Below w.heap.size w w' := by
  have HB : Hid (Below w.heap.size w (w.alloc (.cells #[.int .i64 s, .slice a ps.length c] 66))) := box_below w s a _ c
  have I1 : Hid (IsI (w.alloc (.cells #[.int .i64 s, .slice a ps.length c] 66)) a ps) := hI.keep HB.out
  clear hI
  go_enter Tryz.func136, Tryz.ntmps136
  go_wp2
  go_loop [3, 9] (fun fv iv => ∃ (k : Nat) (f : Int), k ≤ ps.length ∧ iv = .int .i64 k ∧ fv = .int .i64 f ∧ 0 ≤ f ∧ f ≤ 4096 ∧ placedB s 0 ps = placedB s f (ps.drop k)) (fun _ iv => ps.length - (intOf iv).toNat)
  case atStart => exact ⟨0, 0, Nat.zero_le _, rfl, rfl, by omega, by omega, rfl⟩
  case round =>
    obtain ⟨k, f, hk, rfl, rfl, f0, f1, hp⟩ := hrel
    have HP : Hid (placedB s 0 ps = placedB s f (ps.drop k)) := hp
    clear hp
    by_cases hlt : k < ps.length
    · obtain ⟨hin, h0 | ⟨b, off, rfl, hsz, hc⟩⟩ := I1.out
      · rw [h0] at hlt; simp at hlt
      have hcell := hc k hlt
      have hpb := AllI.at (show AllI ps from hin) k
      have EP : Hid (placedB s f (ps.drop k) = (decide (f ≤ ps.getD k 0 ∧ ps.getD k 0 ≤ s - 8 ∧ ps.getD k 0 % 8 = 0) && placedB s (ps.getD k 0 + 8) (ps.drop (k + 1)))) := placed_step s f ps k hlt
      obtain ⟨p, hp⟩ : ∃ p, ps.getD k 0 = p := ⟨_, rfl⟩
      rw [hp] at hcell hpb EP
      clear hp hc hin hsz
      by_cases hok : f ≤ p ∧ p ≤ s - 8 ∧ p % 8 = 0
      · obtain ⟨k1, k2, k3⟩ := hok
        have EQ : Hid (placedB s 0 ps = placedB s (p + 8) (ps.drop (k + 1))) := by show _ = _; rw [HP.out, EP.out, decide_eq_true ⟨k1, k2, k3⟩, Bool.true_and]
        clear HP EP
        go_wp2
        go_round
        case rel => exact ⟨k + 1, p + 8, by omega, by go_num, rfl, by omega, by omega, EQ.out⟩
        case measure => simp [intOf]; omega
      · have EQ : Hid (placedB s 0 ps = false) := by show _ = _; rw [HP.out, EP.out, decide_eq_false hok, Bool.false_and]
        clear HP EP
        have hcs : p < f ∨ (f ≤ p ∧ s - 8 < p) ∨ (f ≤ p ∧ p ≤ s - 8 ∧ (p % 8 != 0) = true) := by
          rcases Int.lt_or_le p f with h | h
          · exact .inl h
          · rcases Int.lt_or_le (s - 8) p with h' | h'
            · exact .inr (.inl ⟨h, h'⟩)
            · exact .inr (.inr ⟨h, h', by rw [bne_iff_ne]; intro h8; exact hok ⟨h, h', h8⟩⟩)
        clear hok
        rcases hcs with h | ⟨h, h'⟩ | ⟨h, h', h8⟩
        all_goals (go_wp2; go_ret; exact ⟨ret_bool EQ.out.symm, HB.out⟩)
    · have EQ : Hid (placedB s 0 ps = true) := by show _ = _; rw [HP.out]; exact placed_end s f ps k (by omega)
      clear HP
      go_wp2
      go_ret
      exact ⟨ret_bool EQ.out.symm, HB.out⟩
set_option maxHeartbeats 2000000 in
theorem kcheck_any (s : Int) (a : Option Addr) (c : Nat) (ps : List Int) (w : World) (hI : IsI w a ps) (hm : ps.length ≤ maxLen) :
    Calls Tryz.prog 128 #[.agg #[.int .i64 s, .slice a ps.length c]] w fun e w' => e = .returned (.int .i64 (checkK s ps)) ∧ Below w.heap.size w w' := by
  have HB : Hid (Below w.heap.size w (w.alloc (.cells #[.int .i64 s, .slice a ps.length c] 66))) := box_below w s a _ c
  have I1 : Hid (IsI (w.alloc (.cells #[.int .i64 s, .slice a ps.length c] 66)) a ps) := hI.keep HB.out
  clear hI
  unfold maxLen at hm
  by_cases h1 : s < 1 ∨ 4096 < s
  · have E : Hid (checkK s ps = 2) := check_two h1
    go_enter Tryz.func128, Tryz.ntmps128
    go_wp2
    all_goals (go_ret; exact ⟨ret_int E.out.symm, HB.out⟩)
  · by_cases h2 : 16 < ps.length
    · have E : Hid (checkK s ps = 6) := check_six h1 h2
      have g1 : ¬ s < 1 := by omega
      have g2 : ¬ 4096 < s := by omega
      clear h1
      go_enter Tryz.func128, Tryz.ntmps128
      go_wp2
      all_goals (go_ret; exact ⟨ret_int E.out.symm, HB.out⟩)
    · have g1 : 1 ≤ s := by omega
      have g2 : s ≤ 4096 := by omega
      have g3 : ps.length ≤ 16 := by omega
      rcases hp : placedB s 0 ps with _ | _
      · have E : Hid (checkK s ps = 11) := check_el h1 h2 hp
        have EP : Hid (placedB s 0 ps = false) := hp
        clear h1 h2 hp
        go_enter Tryz.func128, Tryz.ntmps128
        go_wp2_with (go_at_call 136; refine (placed_any s a c ps _ I1.out g1 g2 g3).mono ?_; rw [EP.out]; rintro e w1 ⟨rfl, b1⟩)
        go_ret
        exact ⟨ret_int E.out.symm, HB.out.trans (b1.mono HB.out.size)⟩
      · have E : Hid (checkK s ps = 0) := check_ok h1 h2 hp
        have EP : Hid (placedB s 0 ps = true) := hp
        clear h1 h2 hp
        go_enter Tryz.func128, Tryz.ntmps128
        go_wp2_with (go_at_call 136; refine (placed_any s a c ps _ I1.out g1 g2 g3).mono ?_; rw [EP.out]; rintro e w1 ⟨rfl, b1⟩)
        go_ret
        exact ⟨ret_int E.out.symm, HB.out.trans (b1.mono HB.out.size)⟩
/-- Check, its length and what it answers told apart. -/
theorem check_is (s : Int) (a : Option Addr) (c n : Nat) (ps : List Int) (r : Int) (w : World) (hn : n = ps.length) (hr : checkK s ps = r) (hI : IsI w a ps) (hm : ps.length ≤ maxLen) :
    Calls Tryz.prog 128 #[.agg #[.int .i64 s, .slice a n c]] w fun e w' => e = .returned (.int .i64 r) ∧ Below w.heap.size w w' := by
  subst hn hr; exact kcheck_any s a c ps w hI hm
/-- A kind is stored into its variable. -/
def laid (w : World) (g : Nat) (k : Int) (v : Value) : World := (w.setCell ⟨g, 0, none⟩ (.int .i64 k)).setCell ⟨g, 1, none⟩ v
theorem laid0 {w : World} {g : Nat} {k : Int} {v u : Value} (h : w.cell? ⟨g, 0, none⟩ = some u) : (laid w g k v).cell? ⟨g, 0, none⟩ = some (.int .i64 k) := by
  rw [laid, cell_else (by decide), cell_set h]
theorem laid1 {w : World} {g : Nat} {k : Int} {v u : Value} (h : w.cell? ⟨g, 1, none⟩ = some u) : (laid w g k v).cell? ⟨g, 1, none⟩ = some v := by
  rw [laid, cell_set (u := u)]
  rw [cell_else (by decide)]; exact h
theorem laid_below {w w' : World} {g B : Nat} {k : Int} {v : Value} (h : Below B w w') (hB : B ≤ g) : Below B w (laid w' g k v) := (h.setCell hB _).setCell hB _
theorem laid_ownsI {w : World} {g base cap : Nat} {k : Int} {v : Value} {a : Option Addr} {l : List Int} (h : OwnsI w base a l cap) (hg : g < base) : OwnsI (laid w g k v) base a l cap :=
  ownsRow_setCell_below (ownsRow_setCell_below h (a := ⟨g, 0, none⟩) hg _) (a := ⟨g, 1, none⟩) hg _
/-- A kind's box and the box of what is answered. -/
def two (w : World) (s : Int) (a : Option Addr) (n c : Nat) : World := (w.alloc (.cells #[.int .i64 s, .slice a n c] 66)).alloc (.cells #[.int .i64 0, .slice none 0 0] 66)
theorem two_below (w : World) (s : Int) (a : Option Addr) (n c : Nat) : Below w.heap.size w (two w s a n c) := (box_below w s a n c).alloc (by simp) _
theorem two_size (w : World) (s : Int) (a : Option Addr) (n c : Nat) : (two w s a n c).heap.size = w.heap.size + 2 := by simp [two]
theorem two_cells (w : World) (s : Int) (a : Option Addr) (n c : Nat) : (two w s a n c).cell? ⟨w.heap.size, 0, none⟩ = some (.int .i64 s) ∧ (two w s a n c).cell? ⟨w.heap.size, 1, none⟩ = some (.slice a n c) ∧ (two w s a n c).cell? ⟨w.heap.size + 1, 0, none⟩ = some (.int .i64 0) ∧ (two w s a n c).cell? ⟨w.heap.size + 1, 1, none⟩ = some (.slice none 0 0) ∧
    (two w s a n c).frozen? ⟨w.heap.size + 1, 0, none⟩ = false ∧ (two w s a n c).frozen? ⟨w.heap.size + 1, 1, none⟩ = false := by
  have h1 : (two w s a n c).heap[w.heap.size]? = some (.cells #[.int .i64 s, .slice a n c] 66 (0, 0)) := by
    unfold two
    rw [((Below.refl _ (w.alloc (.cells #[.int .i64 s, .slice a n c] 66))).alloc (Nat.le_refl _) (.cells #[.int .i64 0, .slice none 0 0] 66)).block w.heap.size (by simp)]
    exact Go.heap_alloc_new w _
  have h2 : (two w s a n c).heap[w.heap.size + 1]? = some (.cells #[.int .i64 0, .slice none 0 0] 66 (0, 0)) := by
    have := Go.heap_alloc_new (w.alloc (.cells #[.int .i64 s, .slice a n c] 66)) (.cells #[.int .i64 0, .slice none 0 0] 66)
    rw [show (w.alloc (.cells #[.int .i64 s, .slice a n c] 66)).heap.size = w.heap.size + 1 from by simp] at this
    exact this
  exact ⟨cell_of_row _ _ 0 _ _ _ h1, cell_of_row _ _ 1 _ _ _ h1, cell_of_row _ _ 0 _ _ _ h2, cell_of_row _ _ 1 _ _ _ h2, frozen_of_row _ _ 0 _ _ h2, frozen_of_row _ _ 1 _ _ h2⟩
theorem bfrozenK {w w' : World} {p : Addr} {v : Value} (hb : Below w.heap.size w w') (h : w.cell? p = some v) (z : w.frozen? p = false) : w'.frozen? p = false := (hb.frozen (World.block_lt_of_cell? w p h)).trans z
theorem from_zero (ps : List Int) : fromK ps 0 = 0 := rfl
theorem from_succ (ps : List Int) (j : Nat) : fromK ps (j + 1) = ps.getD j 0 + 8 := by unfold fromK; simp
set_option maxHeartbeats 4000000 in
theorem rcheck_any (s : Int) (a : Option Addr) (c : Nat) (ps : List Int) (w : World) (hI : IsI w a ps) (hm : ps.length ≤ maxLen) :
    Calls Tryz.prog 31 #[.agg #[.int .i64 s, .slice a ps.length c]] w fun e w' => e = .returned (.int .i64 (checkK s ps)) ∧ Below w.heap.size w w' := by
  have HB : Hid (Below w.heap.size w (w.alloc (.cells #[.int .i64 s, .slice a ps.length c] 66))) := box_below w s a _ c
  have I1 : Hid (IsI (w.alloc (.cells #[.int .i64 s, .slice a ps.length c] 66)) a ps) := hI.keep HB.out
  clear hI
  unfold maxLen at hm
  by_cases h1 : s < 1 ∨ 4096 < s
  · have E : Hid (checkK s ps = 2) := check_two h1
    go_enter Tryz.func31, Tryz.ntmps31
    go_wp2
    all_goals (go_ret; exact ⟨ret_int E.out.symm, HB.out⟩)
  · by_cases h2 : 16 < ps.length
    · have E : Hid (checkK s ps = 6) := check_six h1 h2
      have g1 : ¬ s < 1 := by omega
      have g2 : ¬ 4096 < s := by omega
      clear h1
      go_enter Tryz.func31, Tryz.ntmps31
      go_wp2
      all_goals (go_ret; exact ⟨ret_int E.out.symm, HB.out⟩)
    · have g1 : 1 ≤ s := by omega
      have g2 : s ≤ 4096 := by omega
      have g3 : ps.length ≤ 16 := by omega
      have EK : Hid (placedB s 0 ps = true → checkK s ps = 0) := fun h => check_ok h1 h2 h
      have EL : Hid (placedB s 0 ps = false → checkK s ps = 11) := fun h => check_el h1 h2 h
      clear h1 h2
      go_enter Tryz.func31, Tryz.ntmps31
      go_wp2
      go_loop [20] (fun iv => ∃ k : Nat, k ≤ ps.length ∧ iv = .int .i64 k ∧ placedB s 0 ps = placedB s (fromK ps k) (ps.drop k) ∧ ∀ j, k = j + 1 → 0 ≤ ps.getD j 0 ∧ ps.getD j 0 ≤ s - 8 ∧ ps.getD j 0 % 8 = 0) (fun iv => ps.length - (intOf iv).toNat)
      case atStart => exact ⟨0, Nat.zero_le _, rfl, rfl, fun j h => by omega⟩
      case round =>
        obtain ⟨k, hk, rfl, hp, hj⟩ := hrel
        have HP : Hid (placedB s 0 ps = placedB s (fromK ps k) (ps.drop k)) := hp
        have HJ : Hid (∀ j, k = j + 1 → 0 ≤ ps.getD j 0 ∧ ps.getD j 0 ≤ s - 8 ∧ ps.getD j 0 % 8 = 0) := hj
        clear hp hj
        by_cases hlt : k < ps.length
        · obtain ⟨hin, h0 | ⟨b, off, rfl, hsz, hc⟩⟩ := I1.out
          · rw [h0] at hlt; simp at hlt
          have hcell := hc k hlt
          have hpb := AllI.at (show AllI ps from hin) k
          have EP : Hid (placedB s (fromK ps k) (ps.drop k) = (decide (fromK ps k ≤ ps.getD k 0 ∧ ps.getD k 0 ≤ s - 8 ∧ ps.getD k 0 % 8 = 0) && placedB s (ps.getD k 0 + 8) (ps.drop (k + 1)))) := placed_step s _ ps k hlt
          obtain ⟨p, hp⟩ : ∃ p, ps.getD k 0 = p := ⟨_, rfl⟩
          rw [hp] at hcell hpb EP
          have EPK : Hid (ps.getD k 0 = p) := hp
          have GO : Hid ((fromK ps k ≤ p ∧ p ≤ s - 8 ∧ p % 8 = 0) → placedB s 0 ps = placedB s (fromK ps (k + 1)) (ps.drop (k + 1))) := fun h => by rw [HP.out, EP.out, decide_eq_true h, Bool.true_and, from_succ, EPK.out]
          have NO : Hid (¬ (fromK ps k ≤ p ∧ p ≤ s - 8 ∧ p % 8 = 0) → checkK s ps = 11) := fun h => EL.out (by rw [HP.out, EP.out, decide_eq_false h, Bool.false_and])
          have NJ : Hid ((fromK ps k ≤ p ∧ p ≤ s - 8 ∧ p % 8 = 0) → 0 ≤ fromK ps k → ∀ j, k + 1 = j + 1 → 0 ≤ ps.getD j 0 ∧ ps.getD j 0 ≤ s - 8 ∧ ps.getD j 0 % 8 = 0) := fun h h' j e => by
            obtain rfl : k = j := by omega
            rw [EPK.out]; omega
          clear hp EP EPK HP
          rcases k with _ | j
          · rw [from_zero] at GO NO NJ
            rw [Nat.add_zero] at hcell
            by_cases hok : 0 ≤ p ∧ p ≤ s - 8 ∧ p % 8 = 0
            · have NX : Hid _ := GO.out hok
              have NY : Hid _ := NJ.out hok (by omega)
              obtain ⟨k1, k2, k3⟩ := hok
              clear hc hin hsz GO NO NJ
              go_wp2
              go_round
              case rel => exact ⟨0 + 1, by omega, by go_num, NX.out, NY.out⟩
              case measure => simp [intOf]; omega
            · have E : Hid (checkK s ps = 11) := NO.out hok
              have hcs : p < 0 ∨ (0 ≤ p ∧ (p % 8 != 0) = true) ∨ (0 ≤ p ∧ p % 8 = 0 ∧ s - 8 < p) := by
                rcases Int.lt_or_le p 0 with h | h
                · exact .inl h
                · by_cases h8 : p % 8 = 0
                  · exact .inr (.inr ⟨h, h8, by omega⟩)
                  · exact .inr (.inl ⟨h, by rw [bne_iff_ne]; exact h8⟩)
              clear hc hin hsz GO NO NJ hok
              rcases hcs with h | ⟨h, h'⟩ | ⟨h, h', h8⟩
              all_goals (go_wp2; go_ret; exact ⟨ret_int E.out.symm, HB.out⟩)
          · have hcell' := hc j (by omega)
            obtain ⟨r0, r1, r8⟩ := HJ.out j rfl
            rw [from_succ] at GO NO NJ
            obtain ⟨r, hr⟩ : ∃ r, ps.getD j 0 = r := ⟨_, rfl⟩
            rw [hr] at hcell' r0 r1 r8
            have ER : Hid (ps.getD j 0 = r) := hr
            rw [hr] at GO NO
            have NJ' : Hid ((r + 8 ≤ p ∧ p ≤ s - 8 ∧ p % 8 = 0) → 0 ≤ r + 8 → ∀ i, j + 1 + 1 = i + 1 → 0 ≤ ps.getD i 0 ∧ ps.getD i 0 ≤ s - 8 ∧ ps.getD i 0 % 8 = 0) := by rw [← hr]; exact NJ.out
            clear hr
            by_cases hok : r + 8 ≤ p ∧ p ≤ s - 8 ∧ p % 8 = 0
            · have NX : Hid _ := GO.out hok
              have NY : Hid _ := NJ'.out hok (by omega)
              obtain ⟨k1, k2, k3⟩ := hok
              clear hc hin hsz GO NO NJ NJ'
              go_wp2
              go_round
              case rel => exact ⟨j + 1 + 1, by omega, by go_num, NX.out, NY.out⟩
              case measure => simp [intOf]; omega
            · have E : Hid (checkK s ps = 11) := NO.out hok
              have hcs : p < 0 ∨ (0 ≤ p ∧ (p % 8 != 0) = true) ∨ (0 ≤ p ∧ p % 8 = 0 ∧ s - 8 < p) ∨ (0 ≤ p ∧ p % 8 = 0 ∧ p ≤ s - 8 ∧ p ≤ r) := by
                rcases Int.lt_or_le p 0 with h | h
                · exact .inl h
                · by_cases h8 : p % 8 = 0
                  · by_cases h9 : s - 8 < p
                    · exact .inr (.inr (.inl ⟨h, h8, h9⟩))
                    · exact .inr (.inr (.inr ⟨h, h8, by omega, by omega⟩))
                  · exact .inr (.inl ⟨h, by rw [bne_iff_ne]; exact h8⟩)
              clear hc hin hsz GO NO NJ NJ' hok
              rcases hcs with h | ⟨h, h'⟩ | ⟨h, h', h8⟩ | ⟨h, h', h8, h9⟩
              all_goals (go_wp2; go_ret; exact ⟨ret_int E.out.symm, HB.out⟩)
        · have E : Hid (checkK s ps = 0) := EK.out (by rw [HP.out]; exact placed_end s _ ps k (by omega))
          clear HP
          go_wp2
          go_ret
          exact ⟨ret_int E.out.symm, HB.out⟩
theorem rcheck_is (s : Int) (a : Option Addr) (c n : Nat) (ps : List Int) (r : Int) (w : World) (hn : n = ps.length) (hr : checkK s ps = r) (hI : IsI w a ps) (hm : ps.length ≤ maxLen) :
    Calls Tryz.prog 31 #[.agg #[.int .i64 s, .slice a n c]] w fun e w' => e = .returned (.int .i64 r) ∧ Below w.heap.size w w' := by
  subst hn hr; exact rcheck_any s a c ps w hI hm

set_option maxRecDepth 20000 in
set_option maxHeartbeats 2000000 in
theorem kcopy_any (s : Int) (a : Option Addr) (c n : Nat) (l : List Int) (w : World) (hn : n = l.length) (hI : IsI w a l) (hnil : a = none → l = [] ∧ c = 0) (hlen : l.length ≤ 17592186044416) :
    Calls Tryz.prog 27 #[.agg #[.int .i64 s, .slice a n c]] w fun e w' => ∃ a' c', e = .returned (.agg #[.int .i64 s, .slice a' l.length c']) ∧ OwnsI w' w.heap.size a' l c' ∧ Below w.heap.size w w' := by
  subst hn
  have HB : Hid (Below w.heap.size w (two w s a l.length c)) := two_below w s a _ c
  have I1 : Hid (IsI (two w s a l.length c) a l) := hI.keep HB.out
  obtain ⟨q0, q1, q2, q3, z2, z3⟩ := two_cells w s a l.length c
  have Z0 : Hid _ := two_size w s a l.length c
  obtain ⟨D, hD⟩ : ∃ D, two w s a l.length c = D := ⟨_, rfl⟩
  have ED : (w.alloc (.cells #[.int .i64 s, .slice a l.length c] 66)).alloc (.cells #[.int .i64 0, .slice none 0 0] 66) = D := hD
  rw [hD] at HB I1 q0 q1 q2 q3 z2 z3 Z0
  obtain ⟨a2, c2, w2, hrun, o2, _, b2⟩ := appi_any D.drew a l c I1.out.drew hnil hlen
  have hrun' : (Builtin.append_ #[31, 31] 31 #[.slice (some ⟨D.heap.size, 0, none⟩) 0 0, .slice a l.length c]).run Tryz.prog (D.alloc (.cells #[] 3)).drew = .ok (.slice a2 l.length c2) w2 := hrun
  have B2 : Hid (Below D.heap.size D w2) := Below.ofDrew b2
  have O2 : Hid (OwnsI w2 D.heap.size a2 l c2) := o2
  have r0 := bcellK B2.out q0
  have r1 := bcellK B2.out q1
  have r2 := bcellK B2.out q2
  have r3 := bcellK B2.out q3
  have y2 := bfrozenK B2.out q2 z2
  have y3 := bfrozenK B2.out q3 z3
  clear hI hnil hD o2 b2 hrun
  go_enter Tryz.func27, Tryz.ntmps27
  go_wp2_with fail
  go_region_held3 (fun w' => w'.cell? ⟨w.heap.size, 0, none⟩ = some (.int .i64 s) ∧ w'.cell? ⟨w.heap.size, 1, none⟩ = some (.slice a l.length c)) (first | assumption | exact ⟨by assumption, by assumption⟩ | go_keep)
    ((refine step_app rfl _ _ 31 rfl _ _ rfl rfl _ _ hrun' ?_))
  have e0 := laid0 (k := s) (v := .slice a2 l.length c2) r2
  have e1 := laid1 (k := s) (v := .slice a2 l.length c2) r3
  have O3 : Hid (OwnsI (laid w2 (w.heap.size + 1) s (.slice a2 l.length c2)) w.heap.size a2 l c2) := (laid_ownsI O2.out (by have := Z0.out; omega)).mono (by have := Z0.out; omega)
  have B3 : Hid (Below w.heap.size w (laid w2 (w.heap.size + 1) s (.slice a2 l.length c2))) := laid_below (HB.out.trans (B2.out.mono (by have := Z0.out; omega))) (by omega)
  unfold laid at e0 e1
  go_wp2
  refine bodyPost_ret (v := .agg #[.int .i64 s, .slice a2 l.length c2]) (by simp [results, Tryz.results27, go_sem, e0, e1]) rfl ⟨a2, c2, rfl, O3.out, B3.out⟩

/-- A kind in memory. -/
structure Kd where
  s : Int
  a : Option Addr
  c : Nat
  l : List Int
/-- The cells of kinds. -/
def cellsK : List Kd → List Value
  | [] => []
  | k :: r => .int .i64 k.s :: .slice k.a k.l.length k.c :: cellsK r
theorem cellsK_append : ∀ (a b : List Kd), cellsK (a ++ b) = cellsK a ++ cellsK b
  | [], _ => rfl
  | k :: a, b => by simp [cellsK, cellsK_append a b]
theorem cellsK_at : ∀ (ks : List Kd) (i : Nat) (h : i < ks.length), (cellsK ks)[i * 2]? = some (.int .i64 ks[i].s) ∧ (cellsK ks)[i * 2 + 1]? = some (.slice ks[i].a ks[i].l.length ks[i].c)
  | k :: r, 0, _ => by simp [cellsK]
  | k :: r, i + 1, h => by
    have := cellsK_at r i (by simpa using h)
    rw [show (i + 1) * 2 = i * 2 + 2 from by omega, show i * 2 + 2 + 1 = i * 2 + 1 + 2 from by omega]
    simpa [cellsK] using this
theorem Tryz.infoK : (Tryz.prog.info? 66).map (fun i => (i.zero, i.size, i.bytes)) = some (some (.agg #[.int .i64 0, .slice none 0 0]), 2, 32) := by kernel_rfl
/-- A row of kinds of one's own. -/
def RowK (w : World) (base : Nat) (a : Option Addr) (ks : List Kd) (cap : Nat) : Prop := w.ownsRow base 66 2 (.slice a ks.length cap) ks.length (cellsK ks)
theorem owns_formK {w : World} {base n : Nat} {v : Value} {xs : List Value} (h : w.ownsRow base 66 2 v n xs) : ∃ a cap, v = .slice a n cap := by
  obtain ⟨_, ⟨rfl, rfl⟩ | ⟨g, c', cur, rfl, _⟩⟩ := h
  · exact ⟨_, _, rfl⟩
  · exact ⟨_, _, rfl⟩
theorem RowK.ge {w : World} {base cap : Nat} {a : Option Addr} {ks : List Kd} (h : RowK w base a ks cap) : ∀ g, ob a = some g → base ≤ g ∧ g < w.heap.size := fun g hg => World.ownsRow.lt h g (by rw [ob_own]; exact hg)
theorem RowK.keep {w w' : World} {base cap : Nat} {a : Option Addr} {ks : List Kd} (h : RowK w base a ks cap) (hb : Below w.heap.size w w') : RowK w' base a ks cap := by
  obtain ⟨h0, h1 | ⟨g, c', cur, h1, hg, h2, h3⟩⟩ := h
  · exact ⟨h0, .inl h1⟩
  · exact ⟨h0, .inr ⟨g, c', cur, h1, hg, by rw [hb.block g (Array.getElem?_eq_some_iff.1 h2).1]; exact h2, h3⟩⟩
theorem RowK.cells {w : World} {base cap : Nat} {a : Option Addr} {ks : List Kd} (h : RowK w base a ks cap) (i : Nat) (hi : i < ks.length) : ∃ g, a = some ⟨g, 0, none⟩ ∧ g < w.heap.size ∧ w.cell? ⟨g, i * 2, none⟩ = some (.int .i64 ks[i].s) ∧ w.cell? ⟨g, i * 2 + 1, none⟩ = some (.slice ks[i].a ks[i].l.length ks[i].c) := by
  have h' := h
  obtain ⟨_, ⟨h1, h2⟩ | ⟨g, c', cur, h1, hg, h2, _⟩⟩ := h
  · omega
  · cases h1
    obtain ⟨e0, e1⟩ := cellsK_at ks i hi
    refine ⟨g, rfl, (Array.getElem?_eq_some_iff.1 h2).1, ?_, ?_⟩
    · rw [World.ownsRow.cellAt h' (i * 2) (by omega)]; exact e0
    · rw [World.ownsRow.cellAt h' (i * 2 + 1) (by omega)]; exact e1
theorem RowK.kind {w : World} {base cap : Nat} {a : Option Addr} {ks : List Kd} (h : RowK w base a ks cap) : ∀ g, ob a = some g → ∃ cur, w.heap[g]? = some (.cells cur 66 (0, 0)) := by
  intro g hg
  obtain ⟨_, ⟨h1, _⟩ | ⟨g', c', cur, h1, _, h2, _⟩⟩ := h
  · simp only [Value.slice.injEq] at h1
    obtain ⟨rfl, _⟩ := h1
    cases hg
  · cases h1
    cases hg
    exact ⟨cur, h2⟩
/-- A kind is appended to a row of one's own, as a run. -/
theorem appK (w : World) (base : Nat) (hbase : base ≤ w.heap.size) (a : Option Addr) (ks : List Kd) (cap : Nat) (h : RowK w base a ks cap) (q c : Nat) (k : Kd) (h0 : w.cell? ⟨q, 0, none⟩ = some (.int .i64 k.s)) (h1 : w.cell? ⟨q, 1, none⟩ = some (.slice k.a k.l.length k.c)) (hlen : ks.length ≤ 1000000) :
    ∃ a' cap' w', (Builtin.append_ #[22, 22] 22 #[.slice a ks.length cap, .slice (some ⟨q, 0, none⟩) 1 c]).run Tryz.prog w = .ok (.slice a' (ks.length + 1) cap') w' ∧ RowK w' base a' (ks ++ [k]) cap' ∧ w.grownBy w' (ob a) ∧ (ob a' = ob a ∨ ob a' = some w.heap.size) := by
  obtain ⟨i0, hi, hz0, hz1, hz2⟩ := info_parts Tryz.infoK
  obtain ⟨v', w', hr, h2, h3, _, h4⟩ := run_append_own_at (P := Tryz.prog) w base 22 22 66 i0 (.agg #[.int .i64 0, .slice none 0 0]) 2 32 Tryz.underlying22 hi hz0 hz1 hz2 rfl (by decide)
    (.slice a ks.length cap) ks.length (cellsK ks) h ⟨q, 0, none⟩ 1 c [.int .i64 k.s, .slice k.a k.l.length k.c] rfl (by
      intro j u hj
      match j, hj with
      | 0, hj => simp at hj; subst hj; simpa [Addr.add] using h0
      | 1, hj => simp at hj; subst hj; simpa [Addr.add] using h1) (by
      intro u hu
      simp at hu
      rcases hu with rfl | rfl <;> rfl) (by unfold maxLen; omega) (by omega) hbase
  obtain ⟨a', cap', rfl⟩ := owns_formK h2
  have e : cellsK (ks ++ [k]) = cellsK ks ++ [.int .i64 k.s, .slice k.a k.l.length k.c] := by rw [cellsK_append]; rfl
  rw [ob_own] at h3 h4
  rw [ob_own] at h4
  exact ⟨a', cap', w', hr, by rw [RowK, e, List.length_append]; exact h2, h3, h4⟩

/-- A slice of kinds. -/
structure IsK (w : World) (a : Option Addr) (ks : List Kd) : Prop where
  at' : ks = [] ∨ ∃ b off, a = some ⟨b, off, none⟩ ∧ b < w.heap.size ∧ ∀ i (h : i < ks.length), w.cell? ⟨b, off + i * 2, none⟩ = some (.int .i64 ks[i].s) ∧ w.cell? ⟨b, off + i * 2 + 1, none⟩ = some (.slice ks[i].a ks[i].l.length ks[i].c)
  body : ∀ k ∈ ks, IsI w k.a k.l ∧ (k.a = none → k.l = [] ∧ k.c = 0) ∧ k.l.length ≤ maxLen
theorem IsK.keep {w w' : World} {a : Option Addr} {ks : List Kd} (h : IsK w a ks) (hb : Below w.heap.size w w') : IsK w' a ks where
  at' := by
    rcases h.at' with h0 | ⟨b, off, e, hs, hc⟩
    · exact .inl h0
    · refine .inr ⟨b, off, e, by have := hb.size; omega, fun i hi => ?_⟩
      rw [hb.cell (p := ⟨b, off + i * 2, none⟩) hs, hb.cell (p := ⟨b, off + i * 2 + 1, none⟩) hs]
      exact hc i hi
  body := fun k hk => ⟨(h.body k hk).1.keep hb, (h.body k hk).2⟩
/-- A kind is stored into a row. -/
def stored (w : World) (g i : Nat) (k : Kd) : World := (w.setCell ⟨g, i * 2, none⟩ (.int .i64 k.s)).setCell ⟨g, i * 2 + 1, none⟩ (.slice k.a k.l.length k.c)
end Go.Proofs.YtbfamjnnlcopiaaGreatDoor
