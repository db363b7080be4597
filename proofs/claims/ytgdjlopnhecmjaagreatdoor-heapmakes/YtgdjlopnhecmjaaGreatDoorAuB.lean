/- Kinds: memory and contracts, the code's and the document's -/
import Derived.Test.YtgdjlopnhecmjaaGreatDoorGzAG
import Derived.Maps.AppendAt
namespace Go.Proofs.YtgdjlopnhecmjaaGreatDoor
open Go.RowKit
set_option linter.unusedVariables false
set_option maxRecDepth 4000

theorem drop_getD (l : List Int) (k : Nat) (h : k < l.length) : l.drop k = l.getD k 0 :: l.drop (k + 1) := by
  rw [List.drop_eq_getElem_cons h]; simp [List.getD, h]
/-- The pointer fields stand where they may, the first place for one being f. -/
def placedB (s : Int) : Int → List Int → Bool
  | _, [] => true
  | f, p :: l => decide (f ≤ p ∧ p ≤ s - 8 ∧ p % 8 = 0) && placedB s (p + 8) l
theorem placed_step (s f : Int) (l : List Int) (k : Nat) (h : k < l.length) : placedB s f (l.drop k) = (decide (f ≤ l.getD k 0 ∧ l.getD k 0 ≤ s - 8 ∧ l.getD k 0 % 8 = 0) && placedB s (l.getD k 0 + 8) (l.drop (k + 1))) := by
  rw [drop_getD l k h, placedB]
theorem placed_end (s f : Int) (l : List Int) (k : Nat) (h : l.length ≤ k) : placedB s f (l.drop k) = true := by
  rw [List.drop_eq_nil_of_le h, placedB]
/-- What is wrong with a kind. -/
def checkK (s : Int) (ps : List Int) : Int := if s < 1 ∨ 4096 < s then 2 else if 16 < ps.length then 6 else if placedB s 0 ps = true then 0 else 11
theorem check_two {s : Int} {ps : List Int} (h : s < 1 ∨ 4096 < s) : checkK s ps = 2 := if_pos h
theorem check_six {s : Int} {ps : List Int} (h : ¬ (s < 1 ∨ 4096 < s)) (h' : 16 < ps.length) : checkK s ps = 6 := by unfold checkK; rw [if_neg h, if_pos h']
theorem check_ok {s : Int} {ps : List Int} (h : ¬ (s < 1 ∨ 4096 < s)) (h' : ¬ 16 < ps.length) (p : placedB s 0 ps = true) : checkK s ps = 0 := by unfold checkK; rw [if_neg h, if_neg h', if_pos p]
theorem check_el {s : Int} {ps : List Int} (h : ¬ (s < 1 ∨ 4096 < s)) (h' : ¬ 16 < ps.length) (p : placedB s 0 ps = false) : checkK s ps = 11 := by unfold checkK; rw [if_neg h, if_neg h', if_neg (by rw [p]; decide)]
theorem bcellK {w w' : World} {p : Addr} {v : Value} (hb : Below w.heap.size w w') (h : w.cell? p = some v) : w'.cell? p = some v := (hb.cell (World.block_lt_of_cell? w p h)).trans h
/-- An append whose run is known, in a region that draws. -/
theorem step_app {ops : Array Oper} {o : Oper} {a : Act} {K : Act → World → Prop} {Q : Exit → Act → World → Prop} {E : Prop} {w : World} (hgd : o.guard = none) (s x : Operand) (t : TypeId)
    (ho : o.op = .call { callee := .builtin .append, args := #[s, x], argTypes := #[t, t] }) (v1 v2 : Value) (hs : a.eval s = v1) (hx : a.eval x = v2) (v' : Value) (w' : World)
    (hr : (Builtin.append_ #[t, t] o.type #[v1, v2]).run Tryz.prog w = .ok v' w') (h : K (a.put o.dst v') w') :
    if Region.wanted o (yielded ops a.tmps) = true then Oper.wp Tryz.prog o a w K Q else E := by
  have hw : Region.wanted o (yielded ops a.tmps) = true := by simp [Region.wanted, hgd]
  rw [if_pos hw]
  unfold Oper.wp execOp
  simp only [ho, resolve, invoke, builtin, Sem.run_bind, Sem.run_pure, Result.andThen_ok, List.map_toArray, List.map_cons, List.map_nil, hs, hx, hr]
  exact h
/-- A kind in a box. -/
theorem box_below (w : World) (s : Int) (a : Option Addr) (n c : Nat) : Below w.heap.size w (w.alloc (.cells #[.int .i64 s, .slice a n c] 103)) := (Below.refl _ w).alloc (Nat.le_refl _) _
set_option maxHeartbeats 2000000 in
theorem placed_any (s : Int) (a : Option Addr) (c : Nat) (ps : List Int) (w : World) (hI : IsI w a ps) (hs : 1 ≤ s) (hs' : s ≤ 4096) (hn : ps.length ≤ 16) :
    Calls Tryz.prog 214 #[.agg #[.int .i64 s, .slice a ps.length c]] w fun e w' => e = .returned (.bool (placedB s 0 ps)) ∧ Below w.heap.size w w' := by
  have HB : Hid (Below w.heap.size w (w.alloc (.cells #[.int .i64 s, .slice a ps.length c] 103))) := box_below w s a _ c
  have I1 : Hid (IsI (w.alloc (.cells #[.int .i64 s, .slice a ps.length c] 103)) a ps) := hI.keep HB.out
  clear hI
  go_enter Tryz.func214, Tryz.ntmps214
  go_wp2
  go_loop [3, 9] (fun fv iv => ∃ (k : Nat) (f : Int), k ≤ ps.length ∧ iv = .int .i64 k ∧ fv = .int .i64 f ∧ 0 ≤ f ∧ f ≤ 4096 ∧ placedB s 0 ps = placedB s f (ps.drop k)) (fun _ iv => ps.length - (intOf iv).toNat)
  case atStart => exact ⟨0, 0, Nat.zero_le _, rfl, rfl, by omega, by omega, rfl⟩
  case round =>
    obtain ⟨k, f, hk, rfl, rfl, f0, f1, hp⟩ := hrel
    have HP : Hid (placedB s 0 ps = placedB s f (ps.drop k)) := hp
    clear hp
    by_cases hlt : k < ps.length
    · obtain ⟨hin, h0 | ⟨b, off, rfl, hsz, hc⟩⟩ := I1.out
      · rw [h0] at hlt; simp at hlt
      have hcell := hc k hlt
      have hpb := AllI.at (show AllI ps from hin) k
      have EP : Hid (placedB s f (ps.drop k) = (decide (f ≤ ps.getD k 0 ∧ ps.getD k 0 ≤ s - 8 ∧ ps.getD k 0 % 8 = 0) && placedB s (ps.getD k 0 + 8) (ps.drop (k + 1)))) := placed_step s f ps k hlt
      obtain ⟨p, hp⟩ : ∃ p, ps.getD k 0 = p := ⟨_, rfl⟩
      rw [hp] at hcell hpb EP
      clear hp hc hin hsz
      by_cases hok : f ≤ p ∧ p ≤ s - 8 ∧ p % 8 = 0
      · obtain ⟨k1, k2, k3⟩ := hok
        have EQ : Hid (placedB s 0 ps = placedB s (p + 8) (ps.drop (k + 1))) := by show _ = _; rw [HP.out, EP.out, decide_eq_true ⟨k1, k2, k3⟩, Bool.true_and]
        clear HP EP
        go_wp2
        go_round
        case rel => exact ⟨k + 1, p + 8, by omega, by go_num, rfl, by omega, by omega, EQ.out⟩
        case measure => simp [intOf]; omega
      · have EQ : Hid (placedB s 0 ps = false) := by show _ = _; rw [HP.out, EP.out, decide_eq_false hok, Bool.false_and]
        clear HP EP
        have hcs : p < f ∨ (f ≤ p ∧ s - 8 < p) ∨ (f ≤ p ∧ p ≤ s - 8 ∧ (p % 8 != 0) = true) := by
          rcases Int.lt_or_le p f with h | h
          · exact .inl h
          · rcases Int.lt_or_le (s - 8) p with h' | h'
            · exact .inr (.inl ⟨h, h'⟩)
            · exact .inr (.inr ⟨h, h', by rw [bne_iff_ne]; intro h8; exact hok ⟨h, h', h8⟩⟩)
        clear hok
        rcases hcs with h | ⟨h, h'⟩ | ⟨h, h', h8⟩
        all_goals (go_wp2; go_ret; exact ⟨ret_bool EQ.out.symm, HB.out⟩)
    · have EQ : Hid (placedB s 0 ps = true) := by show _ = _; rw [HP.out]; exact placed_end s f ps k (by omega)
      clear HP
      go_wp2
      go_ret
      exact ⟨ret_bool EQ.out.symm, HB.out⟩
/-- A kind is stored into its variable. -/
def laid (w : World) (g : Nat) (k : Int) (v : Value) : World := (w.setCell ⟨g, 0, none⟩ (.int .i64 k)).setCell ⟨g, 1, none⟩ v
theorem laid0 {w : World} {g : Nat} {k : Int} {v u : Value} (h : w.cell? ⟨g, 0, none⟩ = some u) : (laid w g k v).cell? ⟨g, 0, none⟩ = some (.int .i64 k) := by
  rw [laid, cell_else (by decide), cell_set h]
theorem laid1 {w : World} {g : Nat} {k : Int} {v u : Value} (h : w.cell? ⟨g, 1, none⟩ = some u) : (laid w g k v).cell? ⟨g, 1, none⟩ = some v := by
  rw [laid, cell_set (u := u)]
  rw [cell_else (by decide)]; exact h
theorem laid_below {w w' : World} {g B : Nat} {k : Int} {v : Value} (h : Below B w w') (hB : B ≤ g) : Below B w (laid w' g k v) := (h.setCell hB _).setCell hB _
theorem laid_ownsI {w : World} {g base cap : Nat} {k : Int} {v : Value} {a : Option Addr} {l : List Int} (h : OwnsI w base a l cap) (hg : g < base) : OwnsI (laid w g k v) base a l cap :=
  ownsRow_setCell_below (ownsRow_setCell_below h (a := ⟨g, 0, none⟩) hg _) (a := ⟨g, 1, none⟩) hg _
/-- A kind's box and the box of what is answered. -/
def two (w : World) (s : Int) (a : Option Addr) (n c : Nat) : World := (w.alloc (.cells #[.int .i64 s, .slice a n c] 103)).alloc (.cells #[.int .i64 0, .slice none 0 0] 103)
theorem two_below (w : World) (s : Int) (a : Option Addr) (n c : Nat) : Below w.heap.size w (two w s a n c) := (box_below w s a n c).alloc (by simp) _
theorem two_size (w : World) (s : Int) (a : Option Addr) (n c : Nat) : (two w s a n c).heap.size = w.heap.size + 2 := by simp [two]
theorem two_cells (w : World) (s : Int) (a : Option Addr) (n c : Nat) : (two w s a n c).cell? ⟨w.heap.size, 0, none⟩ = some (.int .i64 s) ∧ (two w s a n c).cell? ⟨w.heap.size, 1, none⟩ = some (.slice a n c) ∧ (two w s a n c).cell? ⟨w.heap.size + 1, 0, none⟩ = some (.int .i64 0) ∧ (two w s a n c).cell? ⟨w.heap.size + 1, 1, none⟩ = some (.slice none 0 0) ∧
    (two w s a n c).frozen? ⟨w.heap.size + 1, 0, none⟩ = false ∧ (two w s a n c).frozen? ⟨w.heap.size + 1, 1, none⟩ = false := by
  have h1 : (two w s a n c).heap[w.heap.size]? = some (.cells #[.int .i64 s, .slice a n c] 103 (0, 0)) := by
    unfold two
    rw [((Below.refl _ (w.alloc (.cells #[.int .i64 s, .slice a n c] 103))).alloc (Nat.le_refl _) (.cells #[.int .i64 0, .slice none 0 0] 103)).block w.heap.size (by simp)]
    exact Go.heap_alloc_new w _
  have h2 : (two w s a n c).heap[w.heap.size + 1]? = some (.cells #[.int .i64 0, .slice none 0 0] 103 (0, 0)) := by
    have := Go.heap_alloc_new (w.alloc (.cells #[.int .i64 s, .slice a n c] 103)) (.cells #[.int .i64 0, .slice none 0 0] 103)
    rw [show (w.alloc (.cells #[.int .i64 s, .slice a n c] 103)).heap.size = w.heap.size + 1 from by simp] at this
    exact this
  exact ⟨cell_of_row _ _ 0 _ _ _ h1, cell_of_row _ _ 1 _ _ _ h1, cell_of_row _ _ 0 _ _ _ h2, cell_of_row _ _ 1 _ _ _ h2, frozen_of_row _ _ 0 _ _ h2, frozen_of_row _ _ 1 _ _ h2⟩
theorem bfrozenK {w w' : World} {p : Addr} {v : Value} (hb : Below w.heap.size w w') (h : w.cell? p = some v) (z : w.frozen? p = false) : w'.frozen? p = false := (hb.frozen (World.block_lt_of_cell? w p h)).trans z
/-- The same kind. -/
def sameK (s s' : Int) (l l' : List Int) : Bool := decide (s = s' ∧ l = l')
set_option maxHeartbeats 1000000 in
theorem ksame_any (s s' : Int) (a a' : Option Addr) (n n' c c' : Nat) (l l' : List Int) (w : World) (h : IsI w a l) (h' : IsI w a' l') (hn : n = l.length) (hn' : n' = l'.length) (hm : l.length ≤ maxLen) (hm' : l'.length ≤ maxLen) :
    Calls Tryz.prog 107 #[.agg #[.int .i64 s, .slice a n c], .agg #[.int .i64 s', .slice a' n' c']] w fun e w' => e = .returned (.bool (sameK s s' l l')) ∧ Below w.heap.size w w' := by
  subst hn hn'
  have HB : Hid (Below w.heap.size w ((w.alloc (.cells #[.int .i64 s, .slice a l.length c] 103)).alloc (.cells #[.int .i64 s', .slice a' l'.length c'] 103))) := (box_below w s a _ c).alloc (by simp) _
  have I1 : Hid (IsI ((w.alloc (.cells #[.int .i64 s, .slice a l.length c] 103)).alloc (.cells #[.int .i64 s', .slice a' l'.length c'] 103)) a l) := h.keep HB.out
  have I2 : Hid (IsI ((w.alloc (.cells #[.int .i64 s, .slice a l.length c] 103)).alloc (.cells #[.int .i64 s', .slice a' l'.length c'] 103)) a' l') := h'.keep HB.out
  clear h h'
  by_cases hs : s = s'
  · subst hs
    obtain ⟨r, hr⟩ : ∃ r, decide (l = l') = r := ⟨_, rfl⟩
    have ER : Hid (decide (l = l') = r) := hr
    have EK : Hid (sameK s s l l' = r) := by show _ = _; rw [← hr]; unfold sameK; simp
    clear hr
    go_enter Tryz.func107, Tryz.ntmps107
    go_wp2_with (go_at_call 167; refine (ints_any a a' _ _ c c' l l' _ I1.out I2.out rfl rfl hm hm').mono ?_; rw [ER.out]; rintro e w1 ⟨rfl, b1⟩)
    go_ret
    exact ⟨ret_bool EK.out.symm, HB.out.trans (b1.mono HB.out.size)⟩
  · have hq : (s == s') = false := by rw [beq_eq_false_iff_ne]; exact hs
    have EK : Hid (sameK s s' l l' = false) := decide_eq_false (fun h => hs h.1)
    go_enter Tryz.func107, Tryz.ntmps107
    go_wp2
    go_ret
    exact ⟨ret_bool EK.out.symm, HB.out⟩
theorem ksame_true (s : Int) (a a' : Option Addr) (n n' c c' : Nat) (l : List Int) (w : World) (h : IsI w a l) (h' : IsI w a' l) (hn : n = l.length) (hn' : n' = l.length) (hm : l.length ≤ maxLen) :
    Calls Tryz.prog 107 #[.agg #[.int .i64 s, .slice a n c], .agg #[.int .i64 s, .slice a' n' c']] w fun e w' => e = .returned (.bool true) ∧ Below w.heap.size w w' := by
  refine (ksame_any s s a a' n n' c c' l l w h h' hn hn' hm hm).mono ?_
  rintro e w' ⟨rfl, b⟩
  exact ⟨by simp [sameK], b⟩

/-- A kind in memory. -/
structure Kd where
  s : Int
  a : Option Addr
  c : Nat
  l : List Int
/-- The cells of kinds. -/
def cellsK : List Kd → List Value
  | [] => []
  | k :: r => .int .i64 k.s :: .slice k.a k.l.length k.c :: cellsK r
theorem cellsK_append : ∀ (a b : List Kd), cellsK (a ++ b) = cellsK a ++ cellsK b
  | [], _ => rfl
  | k :: a, b => by simp [cellsK, cellsK_append a b]
theorem cellsK_at : ∀ (ks : List Kd) (i : Nat) (h : i < ks.length), (cellsK ks)[i * 2]? = some (.int .i64 ks[i].s) ∧ (cellsK ks)[i * 2 + 1]? = some (.slice ks[i].a ks[i].l.length ks[i].c)
  | k :: r, 0, _ => by simp [cellsK]
  | k :: r, i + 1, h => by
    have := cellsK_at r i (by simpa using h)
    rw [show (i + 1) * 2 = i * 2 + 2 from by omega, show i * 2 + 2 + 1 = i * 2 + 1 + 2 from by omega]
    simpa [cellsK] using this
theorem Tryz.infoK : (Tryz.prog.info? 103).map (fun i => (i.zero, i.size, i.bytes)) = some (some (.agg #[.int .i64 0, .slice none 0 0]), 2, 32) := by kernel_rfl
/-- A row of kinds of one's own. -/
def RowK (w : World) (base : Nat) (a : Option Addr) (ks : List Kd) (cap : Nat) : Prop := w.ownsRow base 103 2 (.slice a ks.length cap) ks.length (cellsK ks)
theorem owns_formK {w : World} {base n : Nat} {v : Value} {xs : List Value} (h : w.ownsRow base 103 2 v n xs) : ∃ a cap, v = .slice a n cap := by
  obtain ⟨_, ⟨rfl, rfl⟩ | ⟨g, c', cur, rfl, _⟩⟩ := h
  · exact ⟨_, _, rfl⟩
  · exact ⟨_, _, rfl⟩
theorem RowK.keep {w w' : World} {base cap : Nat} {a : Option Addr} {ks : List Kd} (h : RowK w base a ks cap) (hb : Below w.heap.size w w') : RowK w' base a ks cap := by
  obtain ⟨h0, h1 | ⟨g, c', cur, h1, hg, h2, h3⟩⟩ := h
  · exact ⟨h0, .inl h1⟩
  · exact ⟨h0, .inr ⟨g, c', cur, h1, hg, by rw [hb.block g (Array.getElem?_eq_some_iff.1 h2).1]; exact h2, h3⟩⟩
theorem RowK.cells {w : World} {base cap : Nat} {a : Option Addr} {ks : List Kd} (h : RowK w base a ks cap) (i : Nat) (hi : i < ks.length) : ∃ g, a = some ⟨g, 0, none⟩ ∧ g < w.heap.size ∧ w.cell? ⟨g, i * 2, none⟩ = some (.int .i64 ks[i].s) ∧ w.cell? ⟨g, i * 2 + 1, none⟩ = some (.slice ks[i].a ks[i].l.length ks[i].c) := by
  have h' := h
  obtain ⟨_, ⟨h1, h2⟩ | ⟨g, c', cur, h1, hg, h2, _⟩⟩ := h
  · omega
  · cases h1
    obtain ⟨e0, e1⟩ := cellsK_at ks i hi
    refine ⟨g, rfl, (Array.getElem?_eq_some_iff.1 h2).1, ?_, ?_⟩
    · rw [World.ownsRow.cellAt h' (i * 2) (by omega)]; exact e0
    · rw [World.ownsRow.cellAt h' (i * 2 + 1) (by omega)]; exact e1
theorem RowK.kind {w : World} {base cap : Nat} {a : Option Addr} {ks : List Kd} (h : RowK w base a ks cap) : ∀ g, ob a = some g → ∃ cur, w.heap[g]? = some (.cells cur 103 (0, 0)) := by
  intro g hg
  obtain ⟨_, ⟨h1, _⟩ | ⟨g', c', cur, h1, _, h2, _⟩⟩ := h
  · simp only [Value.slice.injEq] at h1
    obtain ⟨rfl, _⟩ := h1
    cases hg
  · cases h1
    cases hg
    exact ⟨cur, h2⟩
/-- A slice of kinds. -/
structure IsK (w : World) (a : Option Addr) (ks : List Kd) : Prop where
  at' : ks = [] ∨ ∃ b off, a = some ⟨b, off, none⟩ ∧ b < w.heap.size ∧ ∀ i (h : i < ks.length), w.cell? ⟨b, off + i * 2, none⟩ = some (.int .i64 ks[i].s) ∧ w.cell? ⟨b, off + i * 2 + 1, none⟩ = some (.slice ks[i].a ks[i].l.length ks[i].c)
  body : ∀ k ∈ ks, IsI w k.a k.l ∧ (k.a = none → k.l = [] ∧ k.c = 0) ∧ k.l.length ≤ maxLen
theorem IsK.keep {w w' : World} {a : Option Addr} {ks : List Kd} (h : IsK w a ks) (hb : Below w.heap.size w w') : IsK w' a ks where
  at' := by
    rcases h.at' with h0 | ⟨b, off, e, hs, hc⟩
    · exact .inl h0
    · refine .inr ⟨b, off, e, by have := hb.size; omega, fun i hi => ?_⟩
      rw [hb.cell (p := ⟨b, off + i * 2, none⟩) hs, hb.cell (p := ⟨b, off + i * 2 + 1, none⟩) hs]
      exact hc i hi
  body := fun k hk => ⟨(h.body k hk).1.keep hb, (h.body k hk).2⟩
/-- A kind is stored into a row. -/
def stored (w : World) (g i : Nat) (k : Kd) : World := (w.setCell ⟨g, i * 2, none⟩ (.int .i64 k.s)).setCell ⟨g, i * 2 + 1, none⟩ (.slice k.a k.l.length k.c)
set_option maxRecDepth 20000 in
set_option maxHeartbeats 4000000 in
theorem rall_true (a b : Option Addr) (n n' ca cb : Nat) (xs ys : List Kd) (w : World) (hx : IsK w a xs) (hy : IsK w b ys) (hn : n = xs.length) (hn' : n' = xs.length) (hl : ys.length = xs.length) (hs : ∀ j (h : j < xs.length) (h' : j < ys.length), xs[j].s = ys[j].s ∧ xs[j].l = ys[j].l) (hm : xs.length ≤ 1000000) :
    Calls Tryz.prog 44 #[.slice a n ca, .slice b n' cb] w fun e w' => e = .returned (.bool true) ∧ Below w.heap.size w w' := by
  subst hn hn'
  have HX : Hid (IsK w a xs) := hx
  have HY : Hid (IsK w b ys) := hy
  have HL : Hid (ys.length = xs.length) := hl
  have HS : Hid (∀ j (h : j < xs.length) (h' : j < ys.length), xs[j].s = ys[j].s ∧ xs[j].l = ys[j].l) := hs
  clear hx hy hl hs
  go_enter Tryz.func44, Tryz.ntmps44
  go_wp2
  go_loopw [13] (fun iv wr => ∃ i : Nat, i ≤ xs.length ∧ iv = .int .i64 i ∧ Below w.heap.size w wr) (fun iv _ => xs.length - (intOf iv).toNat)
  case atStart => exact ⟨0, Nat.zero_le _, rfl, Below.refl _ _⟩
  case round =>
    obtain ⟨i, hi, rfl, hB⟩ := hrel
    have HB : Hid (Below w.heap.size w wr) := hB
    by_cases hlt : i < xs.length
    · have hlt' : i < ys.length := by rw [HL.out]; exact hlt
      have hX := HX.out.keep hB
      have hY := HY.out.keep hB
      obtain h0 | ⟨b1, o1, rfl, hs1, c1⟩ := hX.at'
      · rw [h0] at hlt; simp at hlt
      obtain h0 | ⟨b2, o2, rfl, hs2, c2⟩ := hY.at'
      · rw [h0] at hlt'; simp at hlt'
      obtain ⟨x0, x1⟩ := c1 i hlt
      obtain ⟨y0, y1⟩ := c2 i hlt'
      obtain ⟨IX, _, MX⟩ := hX.body xs[i] (List.getElem_mem hlt)
      obtain ⟨IY, _, _⟩ := hY.body ys[i] (List.getElem_mem hlt')
      obtain ⟨es, el⟩ := HS.out i hlt hlt'
      generalize xs[i] = x at *
      generalize ys[i] = y at *
      obtain ⟨s, ax, cx, l⟩ := x
      obtain ⟨s', ay, cy, l'⟩ := y
      dsimp only at x0 x1 y0 y1 IX MX IY es el
      subst es el
      have I1 : Hid (IsI wr ax l) := IX
      have I2 : Hid (IsI wr ay l) := IY
      have hii : (i : Int) < (xs.length : Int) := by omega
      clear hX hY c1 c2 hB IX IY hs1 hs2 hlt'
      go_wp2_with fail
      go_region_held3 (fun w' => w'.cell? ⟨b1, o1 + i * 2, none⟩ = some (.int .i64 s) ∧ w'.cell? ⟨b1, o1 + i * 2 + 1, none⟩ = some (.slice ax l.length cx) ∧ w'.cell? ⟨b2, o2 + i * 2, none⟩ = some (.int .i64 s) ∧ w'.cell? ⟨b2, o2 + i * 2 + 1, none⟩ = some (.slice ay l.length cy)) (first | assumption | exact ⟨by assumption, by assumption, by assumption, by assumption⟩ | go_keep)
        ((go_at_call 107; refine (ksame_true s ax ay _ _ cx cy l _ I1.out.drew I2.out.drew rfl rfl MX).mono ?_; rintro e w2 ⟨rfl, bS⟩; have BS : Hid (Below wr.heap.size wr w2) := Below.ofDrew bS; have p0 := bcellK BS.out x0; have p1 := bcellK BS.out x1; have p2 := bcellK BS.out y0; have p3 := bcellK BS.out y1; clear bS))
      go_wp2
      go_roundw
      case rel => exact ⟨i + 1, by omega, by go_num, HB.out.trans (BS.out.mono HB.out.size)⟩
      case measure => simp [intOf]; omega
    · obtain rfl : i = xs.length := by omega
      go_wp2
      go_ret
      exact ⟨rfl, HB.out⟩
end Go.Proofs.YtgdjlopnhecmjaaGreatDoor
