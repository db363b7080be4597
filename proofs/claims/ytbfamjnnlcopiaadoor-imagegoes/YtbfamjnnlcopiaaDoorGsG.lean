/- All slots given back: lift. -/
import Derived.Test.YtbfamjnnlcopiaaDoorGsF
import Derived.Deep.RegionHeld3
import Derived.Laws.AppendOwnNone
namespace Go.Proofs.YtbfamjnnlcopiaaDoor
open Go.RowKit
set_option linter.unusedVariables false
set_option maxRecDepth 4000

theorem upd_same {F : Nat → Nat → Bool} {i : Nat} {f : Nat → Bool} (h : F i = f) : updF F i f = F := by
  funext k; unfold updF; by_cases e : k = i
  · subst e; rw [if_pos rfl, h]
  · rw [if_neg e]
theorem upd_upd {F : Nat → Nat → Bool} {i : Nat} {f g : Nat → Bool} : updF (updF F i f) i g = updF F i g := by
  funext k; unfold updF; by_cases e : k = i
  · rw [if_pos e, if_pos e]
  · rw [if_neg e, if_neg e, if_neg e]
theorem upd_at {F : Nat → Nat → Bool} {i : Nat} {f : Nat → Bool} : updF F i f i = f := if_pos rfl
theorem clr_more {F : Nat → Nat → Bool} {l : List Nat} {i : Nat} : updF (clrF F l) i (fun _ => false) = clrF F (l ++ [i]) := by
  funext k; unfold updF clrF
  by_cases e : k = i
  · subst e; rw [if_pos rfl, if_pos (by simp)]
  · rw [if_neg e]
    by_cases h : k ∈ l
    · rw [if_pos h, if_pos (by simp [h])]
    · rw [if_neg h, if_neg (by simp [h, e])]
theorem clr_nil {F : Nat → Nat → Bool} : clrF F [] = F := by funext k; simp [clrF]
/-- A slot given back. -/
theorem turn_from {F : Nat → Bool} {x sl : Nat} (hx : x < sl) : turn sl (fun y => F y && decide (x ≤ y)) (x : Int) false = (fun y => F y && decide (x + 1 ≤ y)) ∧ hasB sl (fun y => F y && decide (x ≤ y)) (x : Int) = F x := by
  have hp : isP sl (x : Int) = true := isP_true.2 (by omega)
  constructor
  · funext y
    rw [← turn_put hp y, Int.toNat_natCast]
    show (if y = x then false else (F y && decide (x ≤ y))) = _
    by_cases e : y = x
    · subst e; simp
    · rw [if_neg e]
      congr 1
      exact decide_eq_decide.2 (by omega)
  · unfold hasB
    rw [hp, Int.toNat_natCast]
    simp
theorem Rt.zn {p c s : Int} (r : Rt p c s) : szI c s = ((szI c s).toNat : Int) := by have := r.facts.2.2.2.1; omega
theorem at_nat {P : Nat} {m : List Sn} (h : Std P m) (i : Nat) (hi : i < m.length) (x : Nat) : 256 * ((sn m i).pg : Int) + (x : Int) * szI ((sn m i).cl : Int) ((sn m i).bts : Int) = (((sn m i).at x : Nat) : Int) := by
  unfold Sn.at Sn.z
  rw [Int.natCast_add, Int.natCast_mul, Int.natCast_mul, ← (h.rt i hi).zn]
  rfl
theorem from_le {P : Nat} {m : List Sn} (h : Std P m) (F : Nat → Nat → Bool) : ∀ (l : List Nat), (∀ i ∈ l, i < m.length) → (fromU m F l).length ≤ 16 * l.length
  | [], _ => by simp [fromU]
  | a :: l, hl => by
    have ih := from_le h F l (fun i hi => hl i (by simp [hi]))
    have := (h.ok a (hl a (by simp))).facts.2.1
    have c := cnt_le (F a) (sn m a).sl
    unfold fromU at ih ⊢
    rw [List.flatMap_cons, List.length_append, List.length_map, lsN_len, List.length_cons]
    omega
end Go.Proofs.YtbfamjnnlcopiaaDoor

/- A class gathered. -/
namespace Go.Proofs.YtbfamjnnlcopiaaDoor
open Go.RowKit
set_option linter.unusedVariables false
set_option maxRecDepth 4000

theorem OwnsI.kind {w : World} {B : Nat} {a : Option Addr} {l : List Int} {c : Nat} (h : OwnsI w B a l c) : ∀ k, ob a = some k → ∃ cur, w.heap[k]? = some (.cells cur 3 (0, 0)) := fun k hk => by
  obtain ⟨_, ⟨h1, _⟩ | ⟨g', c', cur', h1, _, h2, _⟩⟩ := h
  · injection h1 with e1; subst e1; cases hk
  · cases h1; cases hk
    exact ⟨_, h2⟩
theorem OwnsI.cellN {w : World} {B : Nat} {a : Option Addr} {l : List Nat} {c : Nat} (h : OwnsI w B a (l.map Int.ofNat) c) (j : Nat) (hj : j < l.length) : ∃ g, a = some ⟨g, 0, none⟩ ∧ w.cell? ⟨g, j, none⟩ = some (.int .i64 (l.getD j 0 : Nat)) := by
  have h' : w.ownsRow B 3 1 (.slice a (l.map Int.ofNat).length c) _ _ := h
  obtain ⟨_, ⟨h1, h2⟩ | ⟨q, c', cur, h1, hg1, h2, _⟩⟩ := h
  · rw [List.length_map] at h2; omega
  · cases h1
    refine ⟨q, rfl, ?_⟩
    rw [World.ownsRow.cellAt h' j (by rw [List.length_map]; omega)]
    simp [hj, List.getD_eq_getElem?_getD]
theorem mv1_len (m : List Sn) (own frm : List Nat) (sl z : Nat) : ∀ j, (mv1U m own frm sl z j).length ≤ j
  | 0 => Nat.le_refl _
  | j + 1 => by
    rw [mv1U, List.length_append]
    have := mv1_len m own frm sl z j
    unfold mvIf
    split <;> simp <;> omega
theorem mvIf_int (a b z : Nat) : (if (a : Int) = (b : Int) then [] else [⟨a, b, z⟩] : List Mv) = mvIf a b z := by
  unfold mvIf
  by_cases e : a = b
  · rw [if_pos e, if_pos (by omega)]
  · rw [if_neg e, if_neg (by omega)]
/-- The next slot of a class's spans. -/
theorem fill_next {own : List Nat} {sl : Nat} {F : Nat → Nat → Bool} (hinj : ∀ r q, r < own.length → q < own.length → own.getD r 0 = own.getD q 0 → r = q) {r x j : Nat} (hr : r < own.length) (hx : x < sl) (hj : r * sl + x = j) :
    j / sl = r ∧ j % sl = x ∧ (∀ y, fillF own sl (clrF F own) j (own.getD r 0) y = decide (y < x)) ∧ fillF own sl (clrF F own) (j + 1) = updF (fillF own sl (clrF F own) j) (own.getD r 0) (put (fillF own sl (clrF F own) j (own.getD r 0)) x true) := by
  have d1 : j / sl = r := by rw [← hj, Nat.mul_comm, Nat.mul_add_div (by omega), Nat.div_eq_of_lt hx]; omega
  have d2 : j % sl = x := by rw [← hj, Nat.mul_comm, Nat.mul_add_mod, Nat.mod_eq_of_lt hx]
  have le : (r + 1) * sl ≤ own.length * sl := Nat.mul_le_mul_right _ hr
  rw [Nat.add_mul, Nat.one_mul] at le
  refine ⟨d1, d2, fun y => ?_, by rw [fillF, d1, d2]⟩
  rw [fill_at (by omega) hinj r hr j (by omega)]
  exact decide_eq_decide.2 (by omega)
end Go.Proofs.YtbfamjnnlcopiaaDoor

/- The spans closed up. -/
namespace Go.Proofs.YtbfamjnnlcopiaaDoor
open Go.RowKit
set_option linter.unusedVariables false
set_option maxRecDepth 4000

/-- A told span appended. -/
theorem appT_run (B : Nat) (w : World) (hB : B ≤ w.heap.size) (a0 : Option Addr) (ts : List Td) (n cap : Nat) (h : Told w B (.slice a0 n cap) ts) (hn : ts.length = n) (g : Nat) (r : Rw) (N c : Nat) (hN : r.l.length = N) (hq : w.heap[g]? = some (.cells (dcells r.p r.c r.s r.a N r.k) 24 (0, 0))) (hr : OwnsI w B r.a r.l r.k) (hL : ts.length ≤ 1000000) :
    ∃ a' cap' w', (Builtin.append_ #[50, 50] 50 #[.slice a0 n cap, .slice (some ⟨g, 0, none⟩) 1 c]).run Tryd.prog w = .ok (.slice a' (n + 1) cap') w' ∧ Told w' B (.slice a' (n + 1) cap') (ts ++ [r.toTd]) ∧ Tu (fun k => ob a0 = some k) w w' ∧ (ob a' = ob a0 ∨ ob a' = some w.heap.size) := by
  subst hn
  subst hN
  obtain ⟨i0, hi, hz0, hz2, hz3⟩ := info_parts Tryd.infoSpan
  obtain ⟨rs, e1, e2, e3⟩ := h
  obtain ⟨v', w', hr', h2, h3, _, h4⟩ := run_append_own_at (P := Tryd.prog) w B 50 50 24 i0 _ 4 48 Tryd.undSpans hi hz0 hz2 hz3 rfl (by decide) (.slice a0 ts.length cap) ts.length (rs.flatMap Rw.cs) e2 ⟨g, 0, none⟩ 1 c r.cs rfl (fun j u hj => by
      rw [addr_add, Nat.zero_add, cell_of_row _ _ _ _ _ _ hq]
      show (r.cs.toArray)[j]? = some u
      rw [List.getElem?_toArray]; exact hj) (fun u hu => by
      simp [Rw.cs] at hu
      rcases hu with rfl | rfl | rfl | rfl <;> rfl) (by unfold maxLen; omega) (by omega) hB
  have T : Told w' B v' (ts ++ [r.toTd]) := by
    refine ⟨rs ++ [r], by rw [List.map_append, e1]; rfl, ?_, fun q hq => ?_⟩
    · rw [List.flatMap_append, List.length_append]
      simpa using h2
    · rcases List.mem_append.1 hq with k | k
      · exact own_grown (e3 q k) e2 h3
      · obtain rfl : q = r := by simpa using k
        exact own_grown hr e2 h3
  obtain ⟨a', c', e⟩ := T.form
  subst e
  rw [ob_own] at h3 h4
  rw [ob_own] at h4
  rw [List.length_append] at T hr'
  exact ⟨a', c', w', hr', T, Tu.grown h3 (fun g hg => hg), h4⟩
theorem Told.kind {w : World} {B : Nat} {a : Option Addr} {n c : Nat} {ts : List Td} (h : Told w B (.slice a n c) ts) {k : Nat} (hk : ob a = some k) : B ≤ k ∧ k < w.heap.size ∧ ∃ cur, w.heap[k]? = some (.cells cur 24 (0, 0)) := by
  obtain ⟨rs, _, ⟨_, ⟨k1, k2⟩ | ⟨g, c, cur, k1, hb, h2, _⟩⟩, _⟩ := h
  · cases k1; cases hk
  · cases k1; cases hk; exact ⟨hb, hlt h2, cur, h2⟩
theorem Sta.grown {w wr w' : World} {L : Nat → Nat} {a a0 : Option Addr} {ps : List Nat} {n c n0 c0 B' : Nat} {m : List Sn} {F : Nat → Nat → Bool} {ts : List Td} (h : Sta w wr L a ps n c m F) (t : Told wr B' (.slice a0 n0 c0) ts) (hB : w.heap.size ≤ B') (hz : ∀ g, ob a0 = some g → L g = 0) (u : Tu (fun k => ob a0 = some k) wr w') : Sta w w' L a ps n c m F :=
  h.tu u (fun k hk => by
    obtain ⟨h1, h2, cur, h3⟩ := t.kind hk
    refine ⟨hz k hk, by omega, fun e => ?_⟩
    obtain ⟨_, _, cur', h5⟩ := h.row.ge k e
    rw [h3] at h5
    simp at h5)
theorem mv2_len (m : List Sn) (F : Nat → Nat → Bool) : ∀ k, (mv2U m F k).length ≤ k
  | 0 => Nat.le_refl _
  | k + 1 => by
    rw [mv2U, List.length_append]
    have := mv2_len m F k
    unfold mvIf
    split <;> (try split) <;> simp <;> omega
theorem told_len (m : List Sn) (F : Nat → Nat → Bool) : ∀ k, (toldU m F k).length ≤ k
  | 0 => Nat.le_refl _
  | k + 1 => by
    rw [toldU, List.length_append]
    have := told_len m F k
    split <;> simp <;> omega
end Go.Proofs.YtbfamjnnlcopiaaDoor

/- The place that a place comes to. -/
namespace Go.Proofs.YtbfamjnnlcopiaaDoor
open Go.RowKit
set_option linter.unusedVariables false
set_option maxRecDepth 4000

/-- A move with numbers that are not too great. -/
def Mv.Ok (m : Mv) : Prop := 0 ≤ m.fr ∧ m.fr ≤ 1099511627776 ∧ 0 ≤ m.to ∧ m.to ≤ 1099511627776 ∧ 0 ≤ m.ln ∧ m.ln ≤ 1099511627776
/-- The place that a place comes to by a move, by moves. -/
def Mv.go (m : Mv) (x : Int) : Int := if m.fr ≤ x ∧ x < m.fr + m.ln then x + (m.to - m.fr) else x
def whereI (x : Int) (l : List Mv) : Int := l.foldl (fun x m => m.go x) x
/-- Moves that can be read. -/
def RdV (w : World) (a : Option Addr) (l : List Mv) : Prop := ∀ i (h : i < l.length), ∃ g o, a = some ⟨g, o, none⟩ ∧ g < w.heap.size ∧ w.cell? ⟨g, o + i * 3, none⟩ = some (.int .i64 l[i].fr) ∧ w.cell? ⟨g, o + i * 3 + 1, none⟩ = some (.int .i64 l[i].to) ∧ w.cell? ⟨g, o + i * 3 + 2, none⟩ = some (.int .i64 l[i].ln)
theorem RdV.keep {w w' : World} {a : Option Addr} {l : List Mv} (h : RdV w a l) (hb : Below w.heap.size w w') : RdV w' a l := fun i hi => by
  obtain ⟨g, o, e, hg, h1, h2, h3⟩ := h i hi
  exact ⟨g, o, e, Nat.lt_of_lt_of_le hg hb.size, bcell hb h1, bcell hb h2, bcell hb h3⟩
theorem where_step {l : List Mv} {x y : Int} {i : Nat} (hi : i < l.length) (h : whereI x (l.take i) = y) : whereI x (l.take (i + 1)) = l[i].go y := by
  unfold whereI at h ⊢
  rw [List.take_succ_eq_append_getElem hi, List.foldl_append, h]
  rfl
theorem go_bd {m : Mv} (h : m.Ok) {y : Int} {i : Nat} (h0 : 0 ≤ y) (h1 : y ≤ 1099511627776 * (i + 1)) : 0 ≤ m.go y ∧ m.go y ≤ 1099511627776 * (((i + 1 : Nat) : Int) + 1) := by
  obtain ⟨a1, a2, a3, a4, a5, a6⟩ := h
  unfold Mv.go
  split <;> omega
end Go.Proofs.YtbfamjnnlcopiaaDoor

/- The document's place that a place comes to; the same moves. -/
namespace Go.Proofs.YtbfamjnnlcopiaaDoor
open Go.RowKit
set_option linter.unusedVariables false
set_option maxRecDepth 4000

end Go.Proofs.YtbfamjnnlcopiaaDoor

/- The document's Copy of spans that are told. -/
namespace Go.Proofs.YtbfamjnnlcopiaaDoor
open Go.RowKit
set_option linter.unusedVariables false
set_option maxRecDepth 4000

theorem app_nil_cap (P : Program) (w : World) (t e : TypeId) (i : TypeInfo) (ht : P.underlying t = some (.slice e)) (hi : P.info? e = some i) (ty : TypeId) (b : Addr) (k : Nat) : (Builtin.append_ #[t, t] ty #[.slice (some b) 0 0, .slice none 0 k]).run P w = (Builtin.append_ #[t, t] ty #[.slice (some b) 0 0, .slice none 0 0]).run P w := by
  rfl
/-- Numbers of any list put behind none: a list of one's own. -/
theorem appAll_run (B : Nat) (w : World) (hB : B ≤ w.heap.size) (g0 : Nat) (h : OwnsI w B (some ⟨g0, 0, none⟩) [] 0) (la : Option Addr) (l : List Int) (n lk : Nat) (hn : l.length = n) (hI : IsI w la l) (hl : l.length ≤ 17592186044416) :
    ∃ a' cap' w', (Builtin.append_ #[22, 22] 22 #[.slice (some ⟨g0, 0, none⟩) 0 0, .slice la n lk]).run Tryd.prog w = .ok (.slice a' n cap') w' ∧ OwnsI w' B a' l cap' ∧ Tu (fun k => k = g0) w w' := by
  subst hn
  obtain ⟨i0, hi, hz0, hz2, hz3⟩ := info_parts Tryd.info3
  cases la with
  | none =>
    obtain ⟨_, rfl | ⟨b, off, e, _⟩⟩ := hI
    · refine ⟨some ⟨g0, 0, none⟩, 0, w, ?_, h, Tu.refl _ _⟩
      show (Builtin.append_ #[22, 22] 22 #[.slice (some ⟨g0, 0, none⟩) 0 0, .slice none 0 lk]).run Tryd.prog w = _
      rw [app_nil_cap Tryd.prog w _ _ _ Tryd.underlying22 hi]
      exact run_append_owned_none (P := Tryd.prog) (w := w) B 22 22 3 i0 1 Tryd.underlying22 hi _ _ _ h
    · cases e
  | some x =>
    obtain ⟨v', w', hr, h2, h3, _, _⟩ := run_append_own_at (P := Tryd.prog) w B 22 22 3 i0 _ 1 8 Tryd.underlying22 hi hz0 hz2 hz3 rfl (by decide) (.slice (some ⟨g0, 0, none⟩) 0 0) 0 ([].map (Value.int .i64)) h x l.length lk (l.map (Value.int .i64)) (by simp) (fun j u hj => by
        have hj' : j < l.length := by have := (List.getElem?_eq_some_iff.1 hj).1; simpa using this
        obtain ⟨_, h0 | ⟨b, off, e, _, hc⟩⟩ := hI
        · rw [h0] at hj'; simp at hj'
        · cases e
          rw [show (⟨b, off, none⟩ : Addr).add j = ⟨b, off + j, none⟩ from by simp [Addr.add], hc j hj']
          rw [List.getElem?_map, List.getElem?_eq_getElem hj'] at hj
          rw [← hj, List.getD_eq_getElem?_getD, List.getElem?_eq_getElem hj']
          rfl) (fun u hu => by obtain ⟨x, _, rfl⟩ := List.mem_map.1 hu; rfl) (by unfold maxLen; omega) (by omega) hB
    simp only [Nat.zero_add, List.map_nil, List.nil_append] at h2
    obtain ⟨a', cap', rfl⟩ := owns_formI h2
    refine ⟨a', cap', w', hr, h2, Tu.grown h3 (fun g hg => ?_)⟩
    have : some g0 = some g := hg
    exact (Option.some.inj this).symm
set_option maxRecDepth 20000 in
set_option maxHeartbeats 4000000 in
theorem rcopy_any (a : Option Addr) (n cap : Nat) (ts : List Td) (w : World) (h : RdT w a ts) (hn : ts.length = n) (hl : n ≤ 100000) (hL : ∀ t ∈ ts, t.l.length ≤ 17592186044416) :
    Calls Tryd.prog 20 #[.slice a n cap] w fun e w' => ∃ a' c', e = .returned (.slice a' n c') ∧ Told w' w.heap.size (.slice a' n c') ts ∧ Below w.heap.size w w' := by
  have H : Hid (RdT w a ts) := h
  have HN : Hid (ts.length = n) := hn
  have HL : Hid (∀ t ∈ ts, t.l.length ≤ 17592186044416) := hL
  clear h hn hL
  go_enter Tryd.func20, Tryd.ntmps20
  go_wp2_with fail
  go_loopw [3, 8] (fun lv iv wr => ∃ (k : Nat) (av : Option Addr) (cv : Nat), k ≤ n ∧ iv = .int .i64 (k : Nat) ∧ lv = .slice av k cv ∧ Told wr w.heap.size (.slice av k cv) (ts.take k) ∧ Below w.heap.size w wr) (fun _ iv _ => n - lenW iv)
  case atStart => exact ⟨0, none, 0, Nat.zero_le _, rfl, rfl, Told.nil _ _, Below.refl _ _⟩
  case round =>
    obtain ⟨k, av, cv, hk, rfl, rfl, ht, hb⟩ := hrel
    rename World => wr
    have HT : Hid (Told wr w.heap.size (.slice av k cv) (ts.take k)) := ht
    have HB : Hid (Below w.heap.size w wr) := hb
    clear ht hb
    by_cases hkn : k < n
    · have hkt : k < ts.length := by rw [HN.out]; exact hkn
      obtain ⟨g, off, la, lk, rfl, c0, c1, c2, c3, hI, hl0⟩ := (H.out.keep HB.out) k hkt
      have hl1 := HL.out ts[k] (List.getElem_mem hkt)
      have ET : ts.take k ++ [ts[k]] = ts.take (k + 1) := (List.take_succ_eq_append_getElem hkt).symm
      obtain ⟨t, ht⟩ : ∃ t, ts[k] = t := ⟨_, rfl⟩
      rw [ht] at c0 c1 c2 c3 hI hl0 hl1 ET
      have HET : Hid (ts.take k ++ [t] = ts.take (k + 1)) := ET
      obtain ⟨p, c, s, l⟩ := t
      simp only at c0 c1 c2 c3 hI hl0 hl1
      obtain ⟨ln, hln⟩ : ∃ ln, l.length = ln := ⟨_, rfl⟩
      have HLN : Hid (l.length = ln) := hln
      rw [hln] at c3
      obtain ⟨E1, hE1⟩ : ∃ E1, wr.alloc (.cells #[.int .i64 p, .int .i64 c, .int .i64 s, .slice la ln lk] 24) = E1 := ⟨_, rfl⟩
      have HE1 : Hid (wr.alloc (.cells #[.int .i64 p, .int .i64 c, .int .i64 s, .slice la ln lk] 24) = E1) := hE1
      have B1 : Below wr.heap.size wr E1 := by rw [← hE1]; exact (Below.refl _ wr).alloc (Nat.le_refl _) _
      have R1 : E1.heap[wr.heap.size]? = some (.cells (dcells p c s la ln lk) 24 (0, 0)) := by rw [← hE1]; exact Go.heap_alloc_new wr _
      have z1 : E1.heap.size = wr.heap.size + 1 := by rw [← hE1]; simp
      obtain ⟨E2, hE2⟩ : ∃ E2, E1.alloc (.cells #[] 3) = E2 := ⟨_, rfl⟩
      have HE2 : Hid (E1.alloc (.cells #[] 3) = E2) := hE2
      have B2 : Below E1.heap.size E1 E2 := by rw [← hE2]; exact (Below.refl _ E1).alloc (Nat.le_refl _) _
      have O2 : OwnsI E2 (wr.heap.size + 1) (some ⟨E1.heap.size, 0, none⟩) [] 0 := by
        rw [← hE2]; exact World.ownsRow_made E1 #[] 0 (by omega) (Nat.zero_le _) rfl
      have R2 := bblock B2 R1
      have hw0 := HB.out.size
      obtain ⟨a9, c9, w9, run9, o9, u9⟩ := appAll_run (wr.heap.size + 1) E2 (by have := B2.size; omega) E1.heap.size O2 la l ln lk hln ((hI.keep B1).keep B2) hl1
      have R9 : w9.heap[wr.heap.size]? = some (.cells (dcells p c s la ln lk) 24 (0, 0)) := u9.block _ _ R2 (by omega)
      have B9 : Below wr.heap.size wr w9 := (B1.trans (B2.mono B1.size)).trans ((u9.below (B := wr.heap.size + 1) (fun i e => by omega) (by have := B2.size; omega)).mono (by omega))
      obtain ⟨X, hX⟩ : ∃ X, w9.setCell ⟨wr.heap.size, 3, none⟩ (.slice a9 ln c9) = X := ⟨_, rfl⟩
      have HX : Hid (w9.setCell ⟨wr.heap.size, 3, none⟩ (.slice a9 ln c9) = X) := hX
      have on : Only wr.heap.size w9 X := by rw [← hX]; exact Only.set _ 3 _ w9
      have RX : X.heap[wr.heap.size]? = some (.cells (dcells p c s a9 ln c9) 24 (0, 0)) := by
        rw [← hX, heap_put R9]; simp [dcells]
      have BX : Below wr.heap.size wr X := B9.trans (on.below (Nat.le_refl _))
      have OX : OwnsI X (wr.heap.size + 1) a9 l c9 := by
        obtain ⟨h0, h1 | ⟨g', c'', cur, h1, hb, h3, h4⟩⟩ := o9
        · exact ⟨h0, .inl h1⟩
        · exact ⟨h0, .inr ⟨g', c'', cur, h1, hb, by rw [on.block g' (by omega)]; exact h3, h4⟩⟩
      obtain ⟨D, hD⟩ : ∃ D, X.alloc (.cells #[.int .i64 p, .int .i64 c, .int .i64 s, .slice a9 ln c9] 24) = D := ⟨_, rfl⟩
      have HD : Hid (X.alloc (.cells #[.int .i64 p, .int .i64 c, .int .i64 s, .slice a9 ln c9] 24) = D) := hD
      have bD : Below X.heap.size X D := by rw [← hD]; exact (Below.refl _ X).alloc (Nat.le_refl _) _
      have RD : Hid (D.heap[X.heap.size]? = some (.cells (dcells p c s a9 ln c9) 24 (0, 0))) := by show _ = _; rw [← hD]; exact Go.heap_alloc_new X _
      have B0 : Below wr.heap.size wr D := BX.trans (bD.mono BX.size)
      have TD : Hid (Told D w.heap.size (.slice av k cv) (ts.take k)) := HT.out.keep B0
      have BD : Hid (Below w.heap.size w D) := HB.out.trans (B0.mono HB.out.size)
      have OD : Hid (OwnsI D w.heap.size a9 l c9) := (OX.keep bD).mono (by omega)
      have KL : Hid ((ts.take k).length = k) := by show _ = _; rw [List.length_take, HN.out]; omega
      have LN : Hid ((ts.take k).length ≤ 100000) := by show _ ≤ _; rw [KL.out]; omega
      have RUN9 : Hid ((Builtin.append_ #[22, 22] 22 #[.slice (some ⟨E1.heap.size, 0, none⟩) 0 0, .slice la ln lk]).run Tryd.prog E2 = .ok (.slice a9 ln c9) w9) := run9
      have e3 := dcell3 R2
      have d3 := dcell3 R1
      have f9 : w9.frozen? ⟨wr.heap.size, 3, none⟩ = false := frozen_of_row _ _ _ _ _ R9
      have y3 := dcell3 R9
      have x0 := dcell0 RX
      have x1 := dcell1 RX
      have x2 := dcell2 RX
      have x3 := dcell3 RX
      have k0 : (k : Int) < (n : Int) := by omega
      clear hI hl0 hl1 ET ht hln B1 R1 z1 B2 O2 R2 hw0 run9 o9 u9 B9 on RX BX OX bD B0 R9 hE1
      go_upto_region 5 with (fail)
      rw [HE1.out]
      go_wp2_with (first
        | (have q9 := f9; at_builtin; (try rw [HE2.out]); refine wpList_runi rfl rfl _ _ rfl (.slice (some ⟨E1.heap.size, 0, none⟩) 0 0) (.slice la ln lk) _ _ rfl rfl RUN9.out ?_; clear f9)
        | (at_builtin; (try rw [HX.out]); (try rw [HD.out]); refine wpList_told rfl _ _ rfl w.heap.size BD.out.size av k cv (ts.take k) rfl KL.out TD.out _ 1 ⟨⟨p, c, s, l⟩, a9, c9⟩ ln HLN.out rfl RD.out OD.out LN.out ?_; intro a4 c4 w4 t4 b4; have T4 : Hid (Told w4 w.heap.size (.slice a4 (k + 1) c4) (ts.take (k + 1))) := (by rw [← HET.out]; exact t4); have B4 : Hid (Below w.heap.size w w4) := BD.out.trans b4; clear t4 b4))
      go_roundw
      case rel => exact ⟨k + 1, a4, c4, by omega, by congr 1, rfl, T4.out, B4.out⟩
      case measure => simp [lenW]; omega
    · obtain rfl : k = n := by omega
      have F : Hid (Told wr w.heap.size (.slice av k cv) ts) := by
        have := HT.out
        rw [List.take_of_length_le (Nat.le_of_eq HN.out)] at this
        exact this
      go_wp2
      go_ret
      exact ⟨av, cv, rfl, F.out, HB.out⟩
end Go.Proofs.YtbfamjnnlcopiaaDoor
