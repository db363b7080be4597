/- Layer 15: KdJ again -/
import Derived.Test.YtgdjlopnhecmjaaGreatDoorGzAZ
import Derived.Test.YtgdjlopnhecmjaaGreatDoorGzAJ
import Derived.Maps.AppendAt
import Derived.Deep.CutBlock
import Derived.Deep.RegionLaw
import Derived.Deep.CutRange
namespace Go.Proofs.YtgdjlopnhecmjaaGreatDoor
open Go.RowKit
set_option linter.unusedVariables false
set_option maxRecDepth 4000
set_option maxRecDepth 20000 in
set_option maxHeartbeats 2000000 in
theorem alike_any (s : Int) (a : Option Addr) (c n : Nat) (l : List Int) (w : World) (hn : n = l.length) (hI : IsI w a l) (hnil : a = none → l = [] ∧ c = 0) (hlen : l.length ≤ 17592186044416) :
    Calls Tryz.prog 114 #[.agg #[.int .i64 s, .slice a n c]] w fun e w' => ∃ a' c', e = .returned (.agg #[.int .i64 s, .slice a' l.length c']) ∧ OwnsI w' w.heap.size a' l c' ∧ Below w.heap.size w w' := by
  subst hn
  have HB : Hid (Below w.heap.size w (two w s a l.length c)) := two_below w s a _ c
  have I1 : Hid (IsI (two w s a l.length c) a l) := hI.keep HB.out
  have HN : Hid (a = none → l = [] ∧ c = 0) := hnil
  have TC : Hid _ := two_cells w s a l.length c
  obtain ⟨q0, q1, q2, q3, z2, z3⟩ := two_cells w s a l.length c
  have z0 := two_size w s a l.length c
  clear hI hnil
  obtain ⟨D, hD⟩ : ∃ D, two w s a l.length c = D := ⟨_, rfl⟩
  have ED : (w.alloc (.cells #[.int .i64 s, .slice a l.length c] 103)).alloc (.cells #[.int .i64 0, .slice none 0 0] 103) = D := hD
  rw [hD] at HB I1 q0 q1 q2 q3 z2 z3 z0
  clear hD TC
  go_enter Tryz.func114, Tryz.ntmps114
  go_wp2_with fail
  go_region_held3 (fun w' => w'.cell? ⟨w.heap.size, 0, none⟩ = some (.int .i64 s) ∧ w'.cell? ⟨w.heap.size, 1, none⟩ = some (.slice a l.length c)) (first | assumption | exact ⟨by assumption, by assumption⟩ | go_keep)
    ((go_at_call 171; refine (clonei_any a c _ l _ rfl I1.out.drew HN.out hlen).mono ?_; rintro e w2 ⟨a2, c2, rfl, o2, b2⟩; have B2 : Hid (Below D.heap.size D w2) := Below.ofDrew b2; have O2 : Hid (OwnsI w2 D.heap.size a2 l c2) := o2; have r0 := bcellK B2.out q0; have r1 := bcellK B2.out q1; have r2 := bcellK B2.out q2; have r3 := bcellK B2.out q3; have y2 := bfrozenK B2.out q2 z2; have y3 := bfrozenK B2.out q3 z3; clear o2 b2))
  have e0 := laid0 (k := s) (v := .slice a2 l.length c2) r2
  have e1 := laid1 (k := s) (v := .slice a2 l.length c2) r3
  have O3 : Hid (OwnsI (laid w2 (w.heap.size + 1) s (.slice a2 l.length c2)) w.heap.size a2 l c2) := (laid_ownsI O2.out (by omega)).mono (by omega)
  have B3 : Hid (Below w.heap.size w (laid w2 (w.heap.size + 1) s (.slice a2 l.length c2))) := laid_below (HB.out.trans (B2.out.mono (by omega))) (by omega)
  unfold laid at e0 e1
  go_wp2
  refine bodyPost_ret (v := .agg #[.int .i64 s, .slice a2 l.length c2]) (by simp [results, Tryz.results114, go_sem, e0, e1]) rfl ⟨a2, c2, rfl, O3.out, B3.out⟩
end Go.Proofs.YtgdjlopnhecmjaaGreatDoor

/- Layer 15: KfA again -/
namespace Go.Proofs.YtgdjlopnhecmjaaGreatDoor
open Go.RowKit
set_option linter.unusedVariables false
set_option maxRecDepth 4000
theorem cellsK_len : ∀ (ks : List Kd), (cellsK ks).length = ks.length * 2
  | [] => rfl
  | k :: r => by simp [cellsK, cellsK_len r]; omega
theorem cellsK_set : ∀ (ks : List Kd) (i : Nat) (k : Kd), i < ks.length → ((cellsK ks).set (i * 2) (.int .i64 k.s)).set (i * 2 + 1) (.slice k.a k.l.length k.c) = cellsK (ks.set i k)
  | x :: r, 0, k, _ => by simp [cellsK]
  | x :: r, i + 1, k, h => by
    have := cellsK_set r i k (by simpa using h)
    rw [show (i + 1) * 2 = i * 2 + 2 from by omega, show i * 2 + 2 + 1 = i * 2 + 1 + 2 from by omega]
    simp only [cellsK, List.set_cons_succ, this]
/-- The block of a row. -/
def iob (a : Option Addr) : Option Nat := a.map (fun p => p.block)
theorem iob_own (a : Option Addr) (n c : Nat) : (Value.slice a n c).ownBlock = iob a := by cases a <;> rfl

theorem rowK_nil (w : World) (base : Nat) : RowK w base none [] 0 := World.ownsRow_nil _ _ _ _
theorem RowK.geI {w : World} {base cap : Nat} {a : Option Addr} {ks : List Kd} (h : RowK w base a ks cap) : ∀ g, iob a = some g → base ≤ g ∧ g < w.heap.size := fun g hg => World.ownsRow.lt h g (by rw [iob_own]; exact hg)
/-- A row whose block stays. -/
theorem RowK.stay {w w' : World} {base cap : Nat} {a : Option Addr} {ks : List Kd} (h : RowK w base a ks cap) (hb : ∀ g, iob a = some g → w'.heap[g]? = w.heap[g]?) : RowK w' base a ks cap := by
  obtain ⟨h0, h1 | ⟨g, c', cur, h1, hg, h2, h3⟩⟩ := h
  · exact ⟨h0, .inl h1⟩
  · refine ⟨h0, .inr ⟨g, c', cur, h1, hg, ?_, h3⟩⟩
    cases h1
    rw [hb g rfl]; exact h2
/-- Two rows of different kinds lie in different blocks. -/
theorem rows_apart {w : World} {base base' n n' s s' : Nat} {e e' : TypeId} {v v' : Value} {xs xs' : List Value} (h : w.ownsRow base e s v n xs) (h' : w.ownsRow base' e' s' v' n' xs') (he : e ≠ e') : v.ownBlock = none ∨ v.ownBlock ≠ v'.ownBlock := by
  obtain ⟨_, ⟨rfl, _⟩ | ⟨g, c, cur, rfl, _, hg, _⟩⟩ := h
  · exact .inl rfl
  · refine .inr fun ee => ?_
    obtain ⟨_, ⟨rfl, _⟩ | ⟨g', c', cur', rfl, _, hg', _⟩⟩ := h'
    · simp [Value.ownBlock] at ee
    · simp [Value.ownBlock] at ee
      subst ee
      rw [hg] at hg'
      simp at hg'
      exact he hg'.2

/-- A box of another kind is no row. -/
theorem box_apart {w : World} {g base n s : Nat} {t e : TypeId} {cs : Array Value} {v : Value} {xs : List Value} (h : w.heap[g]? = some (.cells cs t (0, 0))) (h' : w.ownsRow base e s v n xs) (he : t ≠ e) : some g ≠ v.ownBlock := by
  intro ee
  obtain ⟨_, ⟨rfl, _⟩ | ⟨g', c', cur', rfl, _, hg', _⟩⟩ := h'
  · simp [Value.ownBlock] at ee
  · simp [Value.ownBlock] at ee
    subst ee
    rw [h] at hg'
    simp at hg'
    exact he hg'.2

/-- A kind is appended to a row of one's own, as a run. -/
theorem iappK (w : World) (base : Nat) (hbase : base ≤ w.heap.size) (a : Option Addr) (ks : List Kd) (cap : Nat) (h : RowK w base a ks cap) (q c : Nat) (k : Kd) (h0 : w.cell? ⟨q, 0, none⟩ = some (.int .i64 k.s)) (h1 : w.cell? ⟨q, 1, none⟩ = some (.slice k.a k.l.length k.c)) (hlen : ks.length ≤ 1000000) :
    ∃ a' cap' w', (Builtin.append_ #[45, 45] 45 #[.slice a ks.length cap, .slice (some ⟨q, 0, none⟩) 1 c]).run Tryz.prog w = .ok (.slice a' (ks.length + 1) cap') w' ∧ RowK w' base a' (ks ++ [k]) cap' ∧ w.grownBy w' (iob a) ∧ (iob a' = iob a ∨ iob a' = some w.heap.size) := by
  obtain ⟨i0, hi, hz0, hz1, hz2⟩ := info_parts Tryz.infoK
  obtain ⟨v', w', hr, h2, h3, _, h4⟩ := run_append_own_at (P := Tryz.prog) w base 45 45 103 i0 (.agg #[.int .i64 0, .slice none 0 0]) 2 32 Tryz.underlying45 hi hz0 hz1 hz2 rfl (by decide)
    (.slice a ks.length cap) ks.length (cellsK ks) h ⟨q, 0, none⟩ 1 c [.int .i64 k.s, .slice k.a k.l.length k.c] rfl (by
      intro j u hj
      match j, hj with
      | 0, hj => simp at hj; subst hj; simpa [Addr.add] using h0
      | 1, hj => simp at hj; subst hj; simpa [Addr.add] using h1) (by
      intro u hu
      simp at hu
      rcases hu with rfl | rfl <;> rfl) (by unfold maxLen; omega) (by omega) hbase
  obtain ⟨a', cap', rfl⟩ := owns_formK h2
  have e : cellsK (ks ++ [k]) = cellsK ks ++ [.int .i64 k.s, .slice k.a k.l.length k.c] := by rw [cellsK_append]; rfl
  rw [iob_own] at h3 h4
  rw [iob_own] at h4
  exact ⟨a', cap', w', hr, by rw [RowK, e, List.length_append]; exact h2, h3, h4⟩

/-- Of the blocks that are there just t and r may be others. -/
structure iT2 (t : Nat) (r : Option Nat) (w w' : World) : Prop where
  os : w'.os = w.os
  tape : w'.tape = w.tape
  output : w'.output = w.output
  size : w.heap.size ≤ w'.heap.size
  block : ∀ i, i < w.heap.size → i ≠ t → some i ≠ r → w'.heap[i]? = w.heap[i]?
/-- A table: its box, its row, a list for each kind. -/
structure Tb (w : World) (base lb t : Nat) (ar : Option Addr) (cr : Nat) (ks : List Kd) : Prop where
  box : w.heap[t]? = some (.cells #[.slice ar ks.length cr] 181 (0, 0))
  row : RowK w base ar ks cr
  lists : ∀ k ∈ ks, OwnsI w lb k.a k.l k.c
  right : ∀ k ∈ ks, checkK k.s k.l = 0
  all : ∀ k ∈ ks, AllI k.l
  len : ks.length ≤ 64
  ge : base ≤ t
theorem Tb.lt {w : World} {base lb t cr : Nat} {ar : Option Addr} {ks : List Kd} (h : Tb w base lb t ar cr ks) : t < w.heap.size := (Array.getElem?_eq_some_iff.1 h.box).1
theorem Tb.cell {w : World} {base lb t cr : Nat} {ar : Option Addr} {ks : List Kd} (h : Tb w base lb t ar cr ks) : w.cell? ⟨t, 0, none⟩ = some (.slice ar ks.length cr) := cell_of_row _ _ 0 _ _ _ h.box
theorem Tb.thawed {w : World} {base lb t cr : Nat} {ar : Option Addr} {ks : List Kd} (h : Tb w base lb t ar cr ks) : w.frozen? ⟨t, 0, none⟩ = false := frozen_of_row _ _ 0 _ _ h.box
theorem Tb.keep {w w' : World} {base lb t cr : Nat} {ar : Option Addr} {ks : List Kd} (h : Tb w base lb t ar cr ks) (hb : Below w.heap.size w w') : Tb w' base lb t ar cr ks :=
  ⟨by rw [hb.block t h.lt]; exact h.box, h.row.keep hb, fun k hk => (h.lists k hk).keep hb, h.right, h.all, h.len, h.ge⟩
theorem Tb.isI {w : World} {base lb t cr : Nat} {ar : Option Addr} {ks : List Kd} (h : Tb w base lb t ar cr ks) (k : Kd) (hk : k ∈ ks) : IsI w k.a k.l ∧ (k.a = none → k.l = [] ∧ k.c = 0) ∧ k.l.length ≤ 16 :=
  ⟨ownsI_isI (h.all k hk) (h.lists k hk), (h.lists k hk).parts.2.2.1, (check_zero.1 (h.right k hk)).2.2.1⟩
end Go.Proofs.YtgdjlopnhecmjaaGreatDoor

/- Layer 15: KfB again -/
namespace Go.Proofs.YtgdjlopnhecmjaaGreatDoor
open Go.RowKit
set_option linter.unusedVariables false
set_option maxRecDepth 4000
theorem tnew_any (w : World) : Calls Tryz.prog 142 #[] w fun e w' => ∃ t, e = .returned (.pointer (some ⟨t, 0, none⟩)) ∧ Tb w' w.heap.size w.heap.size t none 0 [] ∧ Below w.heap.size w w' := by
  go_enter Tryz.func142, Tryz.ntmps142
  go_wp2
  go_ret
  refine ⟨w.heap.size, rfl, ⟨Go.heap_alloc_new w _, rowK_nil _ _, fun k hk => by (cases hk), fun k hk => by (cases hk), fun k hk => by (cases hk), Nat.zero_le _, Nat.le_refl _⟩, (Below.refl _ w).alloc (Nat.le_refl _) _⟩

theorem tlen_any (base lb t : Nat) (ar : Option Addr) (cr : Nat) (ks : List Kd) (w : World) (h : Tb w base lb t ar cr ks) :
    Calls Tryz.prog 113 #[.pointer (some ⟨t, 0, none⟩)] w fun e w' => e = .returned (.int .i64 ks.length) ∧ w = w' := by
  have c0 := h.cell
  clear h
  go_enter Tryz.func113, Tryz.ntmps113
  go_wp2
  go_ret
  exact ⟨rfl, rfl⟩

set_option maxHeartbeats 2000000 in
theorem tget_ok (base lb t : Nat) (ar : Option Addr) (cr : Nat) (ks : List Kd) (i : Nat) (w : World) (h : Tb w base lb t ar cr ks) (hi : i < ks.length) :
    Calls Tryz.prog 69 #[.pointer (some ⟨t, 0, none⟩), .int .i64 (i : Nat)] w fun e w' => ∃ a' c', e = .returned (.tuple #[.agg #[.int .i64 ks[i].s, .slice a' ks[i].l.length c'], .int .i64 0]) ∧ OwnsI w' w.heap.size a' ks[i].l c' ∧ Below w.heap.size w w' := by
  obtain ⟨D, hD⟩ : ∃ D, w.alloc (.cells #[.int .i64 0, .slice none 0 0] 103) = D := ⟨_, rfl⟩
  have bD : Below w.heap.size w D := by rw [← hD]; exact (Below.refl _ w).alloc (Nat.le_refl _) _
  have hbx : D.heap[w.heap.size]? = some (.cells #[.int .i64 0, .slice none 0 0] 103 (0, 0)) := by rw [← hD]; exact Go.heap_alloc_new w _
  have hT := h.keep bD
  have c0 := hT.cell
  obtain ⟨g, rfl, hg, k0, k1⟩ := hT.row.cells i hi
  obtain ⟨I0, N0, L0⟩ := hT.isI ks[i] (List.getElem_mem hi)
  generalize ks[i] = k at *
  obtain ⟨s, a, c, l⟩ := k
  dsimp only at k0 k1 I0 N0 L0 ⊢
  have HI : Hid (IsI D a l) := I0
  have HN : Hid (a = none → l = [] ∧ c = 0) := N0
  have BD : Hid (Below w.heap.size w D) := bD
  have HX : Hid _ := hbx
  have hlen := h.len
  have hii : (i : Int) < (ks.length : Int) := by omega
  clear h hT I0 N0 bD hbx
  go_enter Tryz.func69, Tryz.ntmps69
  go_wp2_with fail
  refine (alike_any s a c _ l _ rfl HI.out HN.out (by omega)).mono ?_
  rintro e w1 ⟨a1, c1, rfl, o1, b1⟩
  have hb1 : w1.heap[w.heap.size]? = some (.cells #[.int .i64 0, .slice none 0 0] 103 (0, 0)) := by rw [b1.block _ (Array.getElem?_eq_some_iff.1 HX.out).1]; exact HX.out
  have r0 : w1.cell? ⟨w.heap.size, 0, none⟩ = some (.int .i64 0) := cell_of_row _ _ 0 _ _ _ hb1
  have r1 : w1.cell? ⟨w.heap.size, 1, none⟩ = some (.slice none 0 0) := cell_of_row _ _ 1 _ _ _ hb1
  have z0 := frozen_of_row w1 w.heap.size 0 _ _ hb1
  have z1 := frozen_of_row w1 w.heap.size 1 _ _ hb1
  have zD : w.heap.size < D.heap.size := (Array.getElem?_eq_some_iff.1 HX.out).1
  have e0 := laid0 (k := s) (v := .slice a1 l.length c1) r0
  have e1 := laid1 (k := s) (v := .slice a1 l.length c1) r1
  have O3 : Hid (OwnsI (laid w1 w.heap.size s (.slice a1 l.length c1)) w.heap.size a1 l c1) := (laid_ownsI o1 zD).mono (by omega)
  have B3 : Hid (Below w.heap.size w (laid w1 w.heap.size s (.slice a1 l.length c1))) := laid_below (BD.out.trans (b1.mono (by omega))) (Nat.le_refl _)
  unfold laid at e0 e1
  clear o1 b1 hb1 hD
  go_wp2
  refine bodyPost_ret (v := .tuple #[.agg #[.int .i64 s, .slice a1 l.length c1], .int .i64 0]) (by simp [results, Tryz.results69, go_sem, e0, e1]) rfl ⟨a1, c1, rfl, O3.out, B3.out⟩

end Go.Proofs.YtgdjlopnhecmjaaGreatDoor

/- Layer 15: KfC again -/
namespace Go.Proofs.YtgdjlopnhecmjaaGreatDoor
open Go.RowKit
set_option linter.unusedVariables false
set_option maxRecDepth 4000
theorem add_bad (base lb t : Nat) (ar : Option Addr) (cr : Nat) (ks : List Kd) (s : Int) (a : Option Addr) (c : Nat) (l : List Int) (r : Int) (w : World) (h : Tb w base lb t ar cr ks) (hI : IsI w a l) (hm : l.length ≤ maxLen) (hr : checkK s l = r) (hne : r ≠ 0) :
    Calls Tryz.prog 108 #[.pointer (some ⟨t, 0, none⟩), .agg #[.int .i64 s, .slice a l.length c]] w fun e w' => e = .returned (.tuple #[.int .i64 0, .int .i64 r]) ∧ Below w.heap.size w w' := by
  have B0 : Hid (Below w.heap.size w (w.alloc (.cells #[.int .i64 s, .slice a l.length c] 103))) := box_below w s a _ c
  have HI : Hid (IsI (w.alloc (.cells #[.int .i64 s, .slice a l.length c] 103)) a l) := hI.keep B0.out
  have ER : Hid (checkK s l = r) := hr
  have hq : (r != 0) = true := by rw [bne_iff_ne]; exact hne
  clear h hI hr
  go_enter Tryz.func108, Tryz.ntmps108
  go_wp2_with (go_at_call 168; refine (icheck_is s a c _ l r _ rfl ER.out HI.out hm).mono ?_; rintro e w1 ⟨rfl, b1⟩)
  go_ret2
  exact ⟨rfl, B0.out.trans (b1.mono B0.out.size)⟩

theorem add_full (base lb t : Nat) (ar : Option Addr) (cr : Nat) (ks : List Kd) (s : Int) (a : Option Addr) (c : Nat) (l : List Int) (w : World) (h : Tb w base lb t ar cr ks) (hI : IsI w a l) (hm : l.length ≤ maxLen) (hr : checkK s l = 0) (hf : ks.length = 64) :
    Calls Tryz.prog 108 #[.pointer (some ⟨t, 0, none⟩), .agg #[.int .i64 s, .slice a l.length c]] w fun e w' => e = .returned (.tuple #[.int .i64 0, .int .i64 7]) ∧ Below w.heap.size w w' := by
  have B0 : Hid (Below w.heap.size w (w.alloc (.cells #[.int .i64 s, .slice a l.length c] 103))) := box_below w s a _ c
  have HI : Hid (IsI (w.alloc (.cells #[.int .i64 s, .slice a l.length c] 103)) a l) := hI.keep B0.out
  have ER : Hid (checkK s l = 0) := hr
  have HT : Hid (Tb (w.alloc (.cells #[.int .i64 s, .slice a l.length c] 103)) base lb t ar cr ks) := h.keep B0.out
  have HF : Hid (ks.length = 64) := hf
  clear h hI hr hf
  go_enter Tryz.func108, Tryz.ntmps108
  go_wp2_with (go_at_call 168; refine (icheck_is s a c _ l 0 _ rfl ER.out HI.out hm).mono ?_; rintro e w1 ⟨rfl, b1⟩; have c1 := (HT.out.keep b1).cell; rw [HF.out] at c1)
  go_ret2
  exact ⟨rfl, B0.out.trans (b1.mono B0.out.size)⟩

theorem iT2.pre {t : Nat} {r : Option Nat} {w wx w' : World} (h : iT2 t r wx w') (b : Below w.heap.size w wx) : iT2 t r w w' :=
  ⟨h.os.trans b.os, h.tape.trans b.tape, h.output.trans b.output, Nat.le_trans b.size h.size, fun i hi h1 h2 => (h.block i (Nat.lt_of_lt_of_le hi b.size) h1 h2).trans (b.block i hi)⟩
/-- A kind more lies in the table. -/
theorem Tb.next {w1 w3 : World} {base lb t cr : Nat} {ar : Option Addr} {ks : List Kd} (h : Tb w1 base lb t ar cr ks) {s : Int} {l : List Int} {a2 : Option Addr} {c2 : Nat} (o2 : OwnsI w1 lb a2 l c2) (hr : checkK s l = 0) (ha : AllI l) (hl : ks.length < 64)
    {a3 : Option Addr} {c3 : Nat} (r3 : RowK w3 base a3 (ks ++ [⟨s, a2, c2, l⟩]) c3) (g3 : w1.grownBy w3 (iob ar)) :
    Tb (w3.setCell ⟨t, 0, none⟩ (.slice a3 (ks.length + 1) c3)) base lb t a3 c3 (ks ++ [⟨s, a2, c2, l⟩]) ∧ iT2 t (iob ar) w1 (w3.setCell ⟨t, 0, none⟩ (.slice a3 (ks.length + 1) c3)) ∧ ∀ {lb' : Nat} {b : Option Addr} {m : List Int} {d : Nat}, OwnsI w1 lb' b m d → OwnsI (w3.setCell ⟨t, 0, none⟩ (.slice a3 (ks.length + 1) c3)) lb' b m d := by
  have hrow : w1.ownsRow base 103 2 (.slice ar ks.length cr) ks.length (cellsK ks) := h.row
  have g' : w1.grownBy w3 (Value.slice ar ks.length cr).ownBlock := by rw [iob_own]; exact g3
  have hb3 : w3.heap[t]? = some (.cells #[.slice ar ks.length cr] 181 (0, 0)) := by rw [g'.block t h.lt (box_apart h.box hrow (by decide))]; exact h.box
  have on := Only.set t 0 (.slice a3 (ks.length + 1) c3) w3
  have stI : ∀ {lb' : Nat} {b : Option Addr} {m : List Int} {d : Nat}, OwnsI w1 lb' b m d → OwnsI (w3.setCell ⟨t, 0, none⟩ (.slice a3 (ks.length + 1) c3)) lb' b m d := by
    intro lb' b m d ho
    have o3 : OwnsI w3 lb' b m d := World.ownsRow.kept ho g' (rows_apart ho hrow (by decide))
    have ap := box_apart hb3 o3 (by decide)
    obtain ⟨h0, h1 | ⟨q, c', cur, h1, hg1, h2, h3⟩⟩ := o3
    · exact ⟨h0, .inl h1⟩
    · refine ⟨h0, .inr ⟨q, c', cur, h1, hg1, ?_, h3⟩⟩
      rw [on.block q (fun e => by subst e; rw [h1] at ap; exact ap rfl)]
      exact h2
  refine ⟨⟨?_, ?_, ?_, ?_, ?_, by simp; omega, h.ge⟩, ⟨on.os.trans g'.os, on.tape.trans g'.tape, on.output.trans g'.output, by rw [on.size]; exact g'.size, fun i hi h1 h2 => ?_⟩, stI⟩
  · rw [heap_setCell_same w3 t 0 _ _ _ hb3, List.length_append]; rfl
  · refine r3.stay (fun g hg => on.block g ?_)
    intro e
    subst e
    obtain ⟨cur, hc⟩ := r3.kind g hg
    rw [hb3] at hc
    simp at hc
  · intro k hk
    rcases List.mem_append.1 hk with hk | hk
    · exact stI (h.lists k hk)
    · simp at hk; subst hk; exact stI o2
  · intro k hk
    rcases List.mem_append.1 hk with hk | hk
    · exact h.right k hk
    · simp at hk; subst hk; exact hr
  · intro k hk
    rcases List.mem_append.1 hk with hk | hk
    · exact h.all k hk
    · simp at hk; subst hk; exact ha
  · rw [on.block i h1, g3.block i hi h2]

theorem ent_alike : (match Tryz.prog.funcs[114]? with | some fn => !(fn.name == "runtime.NumGoroutine") && !fn.body.isNone | none => false) = true := by kernel_rfl
/-- A kind appended to a row of one's own, in a region that draws. -/
theorem step_appK {ops : Array Oper} {o : Oper} {a : Act} {K : Act → World → Prop} {Q : Exit → Act → World → Prop} {E : Prop} {w : World} (hgd : o.guard = none) (hty : o.type = 45) (s x : Operand)
    (ho : o.op = .call { callee := .builtin .append, args := #[s, x], argTypes := #[45, 45] }) (base : Nat) (hbase : base ≤ w.heap.size) (ar : Option Addr) (ks : List Kd) (cr q c : Nat) (k : Kd)
    (hs : a.eval s = .slice ar ks.length cr) (hx : a.eval x = .slice (some ⟨q, 0, none⟩) 1 c) (hr : RowK w base ar ks cr) (h0 : w.cell? ⟨q, 0, none⟩ = some (.int .i64 k.s)) (h1 : w.cell? ⟨q, 1, none⟩ = some (.slice k.a k.l.length k.c)) (hlen : ks.length ≤ 1000000)
    (h : ∀ a' cap' w', RowK w' base a' (ks ++ [k]) cap' → w.grownBy w' (iob ar) → (iob a' = iob ar ∨ iob a' = some w.heap.size) → K (a.put o.dst (.slice a' (ks.length + 1) cap')) w') :
    if Region.wanted o (yielded ops a.tmps) = true then Oper.wp Tryz.prog o a w K Q else E := by
  obtain ⟨a', cap', w', hrun, r1, r2, r3⟩ := iappK w base hbase ar ks cr hr q c k h0 h1 hlen
  refine step_app hgd s x 45 ho _ _ hs hx _ w' (by rw [hty]; exact hrun) ?_
  exact h a' cap' w' r1 r2 r3

set_option maxRecDepth 20000 in
set_option maxHeartbeats 4000000 in
theorem add_ok (base lb t : Nat) (ar : Option Addr) (cr : Nat) (ks : List Kd) (s : Int) (a : Option Addr) (c : Nat) (l : List Int) (w : World) (h : Tb w base lb t ar cr ks) (hI : IsI w a l) (hnil : a = none → l = [] ∧ c = 0) (hr : checkK s l = 0) (hf : ks.length < 64) (hbase : base ≤ w.heap.size) (hlb : lb ≤ w.heap.size) :
    Calls Tryz.prog 108 #[.pointer (some ⟨t, 0, none⟩), .agg #[.int .i64 s, .slice a l.length c]] w fun e w' => e = .returned (.tuple #[.int .i64 ks.length, .int .i64 0]) ∧ ∃ ar' cr' a' c', Tb w' base lb t ar' cr' (ks ++ [⟨s, a', c', l⟩]) ∧ OwnsI w' w.heap.size a' l c' ∧ iT2 t (iob ar) w w' ∧ (iob ar' = iob ar ∨ ∃ g, iob ar' = some g ∧ w.heap.size ≤ g) := by
  have hl16 := (check_zero.1 hr).2.2.1
  have B0 : Hid (Below w.heap.size w (w.alloc (.cells #[.int .i64 s, .slice a l.length c] 103))) := box_below w s a _ c
  have HI : Hid (IsI (w.alloc (.cells #[.int .i64 s, .slice a l.length c] 103)) a l) := hI.keep B0.out
  have AI : Hid (AllI l) := hI.1
  have HN : Hid (a = none → l = [] ∧ c = 0) := hnil
  have ER : Hid (checkK s l = 0) := hr
  have HT : Hid (Tb (w.alloc (.cells #[.int .i64 s, .slice a l.length c] 103)) base lb t ar cr ks) := h.keep B0.out
  obtain ⟨q0, q1⟩ := box_cells w s a l.length c
  have Q0 : Hid _ := q0
  have Q1 : Hid _ := q1
  have hltt := h.lt
  clear h hI hr hnil q0 q1
  go_enter Tryz.func108, Tryz.ntmps108
  go_wp2_with fail
  refine (icheck_is s a c _ l 0 _ rfl ER.out HI.out (by unfold maxLen; omega)).mono ?_
  rintro e w1 ⟨rfl, b1⟩
  have T1 : Hid (Tb w1 base lb t ar cr ks) := HT.out.keep b1
  have B1 : Hid (Below w.heap.size w w1) := B0.out.trans (b1.mono B0.out.size)
  have z1 := B1.out.size
  have I1 : Hid (IsI w1 a l) := HI.out.keep b1
  have k0 := bcellK b1 Q0.out
  have k1 := bcellK b1 Q1.out
  have t1 := T1.out.cell
  have y1 := T1.out.thawed
  clear b1
  go_upto_region 8 with (fail)
  have hks : ks.length ≤ 1000000 := by omega
  go_region_law (first
    | (refine step_call rfl 114 _ _ rfl _ rfl _ (alike_any s a c _ l _ rfl I1.out.drew HN.out (by omega)) ent_alike ?_; rintro e w2 ⟨a2, c2, rfl, o2, b2⟩; refine ⟨_, rfl, ?_⟩; have B2 : Hid (Below w1.heap.size w1 w2) := Below.ofDrew b2; have O2 : Hid (OwnsI w2 w1.heap.size a2 l c2) := o2; have p0 := bcellK B2.out k0; have p1 := bcellK B2.out k1; have t2 := bcellK B2.out t1; have y2 := bfrozenK B2.out t1 y1; have T2' : Hid (Tb w2 base lb t ar cr ks) := T1.out.keep B2.out; obtain ⟨x0, x1⟩ := box_cells w2 s a2 l.length c2; have X0 : Hid _ := x0; have X1 : Hid _ := x1; have T3 : Hid (Tb (w2.alloc (.cells #[.int .i64 s, .slice a2 l.length c2] 103)) base lb t ar cr ks) := T2'.out.keep (box_below w2 s a2 _ c2); have n2 := T3.out.cell; have ny := T3.out.thawed; have z2 := B2.out.size; clear o2 b2 x0 x1)
    | (refine step_appK rfl rfl _ _ rfl base (by simp; omega) ar ks cr _ _ ⟨s, a2, c2, l⟩ rfl rfl T3.out.row X0.out X1.out hks ?_; intro a3 c3 w3 r3 g3 f3; obtain ⟨N1, N2, N3⟩ := T3.out.next ((O2.out.mono (by omega)).alloc _) ER.out AI.out hf r3 g3; have M1 : Hid _ := N1; have M3 : Hid (OwnsI (w3.setCell ⟨t, 0, none⟩ (.slice a3 (ks.length + 1) c3)) w.heap.size a2 l c2) := N3 ((O2.out.mono z1).alloc _); have M4 : Hid (iT2 t (iob ar) w (w3.setCell ⟨t, 0, none⟩ (.slice a3 (ks.length + 1) c3))) := N2.pre ((B1.out.trans (B2.out.mono z1)).alloc (Nat.le_trans z1 z2) _); have F3 : Hid (iob a3 = iob ar ∨ ∃ g, iob a3 = some g ∧ w.heap.size ≤ g) := (by rcases f3 with f3 | f3; exact .inl f3; exact .inr ⟨_, f3, by simp; omega⟩); have v3 : w3.cell? ⟨t, 0, none⟩ = some (.slice ar ks.length cr) := (by have hrow : World.ownsRow _ base 103 2 (.slice ar ks.length cr) ks.length (cellsK ks) := T3.out.row; have g' := g3; rw [← iob_own ar ks.length cr] at g'; rw [World.cell?_of_block (g'.block t T3.out.lt (box_apart T3.out.box hrow (by decide)))]; exact n2); have v4 : w3.frozen? ⟨t, 0, none⟩ = false := (by have hrow : World.ownsRow _ base 103 2 (.slice ar ks.length cr) ks.length (cellsK ks) := T3.out.row; have g' := g3; rw [← iob_own ar ks.length cr] at g'; have hb := (g'.block t T3.out.lt (box_apart T3.out.box hrow (by decide))).trans T3.out.box; exact frozen_of_row _ _ 0 _ _ hb); have v5 : (w3.setCell ⟨t, 0, none⟩ (.slice a3 (ks.length + 1) c3)).cell? ⟨t, 0, none⟩ = some (.slice a3 (ks.length + 1) c3) := (by have := M1.out.cell; rw [List.length_append] at this; exact this); clear r3 g3 f3 N1 N2 N3))
  all_goals
    go_wp2
    go_ret2
    exact ⟨by simp, a3, c3, a2, c2, M1.out, M3.out, M4.out, F3.out⟩
end Go.Proofs.YtgdjlopnhecmjaaGreatDoor

/- Layer 15: KdH again -/
namespace Go.Proofs.YtgdjlopnhecmjaaGreatDoor
open Go.RowKit
set_option linter.unusedVariables false
set_option maxRecDepth 4000
end Go.Proofs.YtgdjlopnhecmjaaGreatDoor

/- Layer 15: KfD again -/
namespace Go.Proofs.YtgdjlopnhecmjaaGreatDoor
open Go.RowKit
set_option linter.unusedVariables false
set_option maxRecDepth 4000
def zeroK : Kd := ⟨0, none, 0, []⟩
theorem made_K (n : Nat) : madeCells #[.int .i64 0, .slice none 0 0] (n * 2) = (cellsK (List.replicate n zeroK)).toArray := by
  apply Array.ext'
  simp only [madeCells]
  apply List.ext_getElem
  · simp [cellsK_len]
  · intro j h1 h2
    simp only [cellsK_len, List.length_replicate] at h2
    have hi : j / 2 < (List.replicate n zeroK).length := by simp; omega
    obtain ⟨e0, e1⟩ := cellsK_at (List.replicate n zeroK) (j / 2) hi
    simp only [List.getElem_replicate] at e0 e1
    have hlt : j < (cellsK (List.replicate n zeroK)).length := by simp [cellsK_len]; omega
    rcases Nat.mod_two_eq_zero_or_one j with hj | hj
    · rw [show j / 2 * 2 = j from by omega, List.getElem?_eq_getElem hlt] at e0
      have := Option.some.inj e0
      simp [hj]
      exact this.symm
    · rw [show j / 2 * 2 + 1 = j from by omega, List.getElem?_eq_getElem hlt] at e1
      have := Option.some.inj e1
      simp [hj]
      exact this.symm
theorem make_K (w : World) (n : Nat) (hn : n ≤ 1000000) : (Instr.makeSlice 45 (.int .i64 (n : Nat)) (.int .i64 (n : Nat))).run Tryz.prog w = .ok (.slice (some ⟨w.heap.size, 0, none⟩) n n) (w.alloc (.cells (cellsK (List.replicate n zeroK)).toArray 103)) := by
  obtain ⟨i0, hi0, hz0, hs0, hb0⟩ := info_parts Tryz.infoK
  have h := run_make (P := Tryz.prog) w 45 103 i0 _ Tryz.underlying45 hi0 hz0 .i64 .i64 (n : Int) (n : Int) (by omega) (Int.le_refl _) (by rw [hb0]; omega) (by omega)
  rw [h, hs0]
  simp only [Int.toNat_natCast, Value.cells, made_K]

/-- A row of kinds that fills its block. -/
def FullK (w : World) (g : Nat) (xs : List Kd) : Prop := w.heap[g]? = some (.cells (cellsK xs).toArray 103 (0, 0))
theorem FullK.lt {w : World} {g : Nat} {xs : List Kd} (h : FullK w g xs) : g < w.heap.size := (Array.getElem?_eq_some_iff.1 h).1
theorem FullK.cells {w : World} {g : Nat} {xs : List Kd} (h : FullK w g xs) (i : Nat) (hi : i < xs.length) : w.cell? ⟨g, i * 2, none⟩ = some (.int .i64 xs[i].s) ∧ w.cell? ⟨g, i * 2 + 1, none⟩ = some (.slice xs[i].a xs[i].l.length xs[i].c) := by
  obtain ⟨e0, e1⟩ := cellsK_at xs i hi
  exact ⟨by rw [cell_of_row w g _ _ _ _ h]; simpa using e0, by rw [cell_of_row w g _ _ _ _ h]; simpa using e1⟩
theorem FullK.thawed {w : World} {g : Nat} {xs : List Kd} (h : FullK w g xs) (i : Nat) : w.frozen? ⟨g, i, none⟩ = false := frozen_of_row w g i _ _ h
theorem FullK.keep {w w' : World} {g : Nat} {xs : List Kd} (h : FullK w g xs) (hb : Below w.heap.size w w') : FullK w' g xs := by
  show w'.heap[g]? = _; rw [hb.block g h.lt]; exact h
theorem FullK.stored {w : World} {g : Nat} {xs : List Kd} (h : FullK w g xs) (i : Nat) (hi : i < xs.length) (k : Kd) : FullK (stored w g i k) g (xs.set i k) := by
  have h1 := heap_setCell_same w g (i * 2) _ _ (.int .i64 k.s) h
  have h2 := heap_setCell_same (w.setCell ⟨g, i * 2, none⟩ (.int .i64 k.s)) g (i * 2 + 1) _ _ (.slice k.a k.l.length k.c) h1
  show (Go.Proofs.YtgdjlopnhecmjaaGreatDoor.stored w g i k).heap[g]? = _
  unfold Go.Proofs.YtgdjlopnhecmjaaGreatDoor.stored
  rw [h2, ← cellsK_set xs i k hi]
  simp
theorem stored_only (w : World) (g i : Nat) (k : Kd) : Only g w (stored w g i k) := (Only.set g _ _ w).trans (Only.set g _ _ _)
/-- A list stays where a row of kinds turns. -/
theorem OwnsI.only {w w' : World} {lb g c : Nat} {a : Option Addr} {l : List Int} {cs : Array Value} (h : OwnsI w lb a l c) (hg : w.heap[g]? = some (.cells cs 103 (0, 0))) (on : Only g w w') : OwnsI w' lb a l c := by
  have ap := box_apart hg h (by decide)
  obtain ⟨h0, h1 | ⟨q, c', cur, h1, hg1, h2, h3⟩⟩ := h
  · exact ⟨h0, .inl h1⟩
  · refine ⟨h0, .inr ⟨q, c', cur, h1, hg1, ?_, h3⟩⟩
    rw [on.block q (fun e => by subst e; rw [h1] at ap; exact ap rfl)]
    exact h2

/-- Under way: so many kinds are there. -/
structure AllSt (w wr : World) (ks xs : List Kd) (i : Nat) : Prop where
  row : FullK wr w.heap.size xs
  len : xs.length = ks.length
  done : ∀ j (h : j < ks.length) (h' : j < xs.length), j < i → xs[j].s = ks[j].s ∧ xs[j].l = ks[j].l ∧ OwnsI wr w.heap.size xs[j].a xs[j].l xs[j].c
  below : Below w.heap.size w wr
theorem AllSt.next {w wr w2 : World} {ks xs : List Kd} {i : Nat} (h : AllSt w wr ks xs i) (hi : i < ks.length) {a2 : Option Addr} {c2 : Nat} (b2 : Below wr.heap.size wr w2) (o2 : OwnsI w2 wr.heap.size a2 ks[i].l c2) :
    AllSt w (stored w2 w.heap.size i ⟨ks[i].s, a2, c2, ks[i].l⟩) ks (xs.set i ⟨ks[i].s, a2, c2, ks[i].l⟩) (i + 1) := by
  have r2 := h.row.keep b2
  have hlen := h.len
  have on := stored_only w2 w.heap.size i ⟨ks[i].s, a2, c2, ks[i].l⟩
  have bs := h.below.size
  refine ⟨r2.stored i (by omega) _, by simp [h.len], fun j hj hj' hji => ?_, (h.below.trans (b2.mono bs)).trans (on.below (Nat.le_refl _))⟩
  by_cases e : j = i
  · subst e
    simp only [List.getElem_set_self]
    exact ⟨trivial, trivial, (o2.mono bs).only r2 on⟩
  · rw [List.getElem_set_ne (by omega)]
    obtain ⟨h1, h2, h3⟩ := h.done j hj (by omega) (by omega)
    exact ⟨h1, h2, (h3.keep b2).only r2 on⟩

set_option maxRecDepth 20000 in
set_option maxHeartbeats 4000000 in
theorem tall_any (base lb t : Nat) (ar : Option Addr) (cr : Nat) (ks : List Kd) (w : World) (h : Tb w base lb t ar cr ks) :
    Calls Tryz.prog 52 #[.pointer (some ⟨t, 0, none⟩)] w fun e w' => ∃ xs : List Kd, e = .returned (.slice (some ⟨w.heap.size, 0, none⟩) ks.length ks.length) ∧ AllSt w w' ks xs ks.length := by
  have HT : Hid (Tb w base lb t ar cr ks) := h
  have hlen := h.len
  have hmk := make_K w ks.length (by omega)
  have S0 : Hid (AllSt w (w.alloc (.cells (cellsK (List.replicate ks.length zeroK)).toArray 103)) ks (List.replicate ks.length zeroK) 0) :=
    ⟨Go.heap_alloc_new w _, by simp, fun j hj hj' hji => by omega, (Below.refl _ w).alloc (Nat.le_refl _) _⟩
  clear h
  go_enter Tryz.func52, Tryz.ntmps52
  go_wp2_with (go_at_call 113; refine (tlen_any base lb t ar cr ks _ HT.out).mono ?_; rintro e w' ⟨rfl, rfl⟩)
  go_loopw [10] (fun iv wr => ∃ (i : Nat) (xs : List Kd), i ≤ ks.length ∧ iv = .int .i64 i ∧ AllSt w wr ks xs i) (fun iv _ => ks.length - (intOf iv).toNat)
  case atStart => exact ⟨0, _, Nat.zero_le _, rfl, S0.out⟩
  case round =>
    obtain ⟨i, xs, hi, rfl, hS⟩ := hrel
    have HS : Hid (AllSt w wr ks xs i) := hS
    by_cases hlt : i < ks.length
    · have hT := HT.out.keep hS.below
      have c0 := hT.cell
      obtain ⟨g, rfl, hg, k0, k1⟩ := hT.row.cells i hlt
      obtain ⟨I0, N0, L0⟩ := hT.isI ks[i] (List.getElem_mem hlt)
      obtain ⟨f0, f1⟩ := hS.row.cells i (by rw [hS.len]; exact hlt)
      have z0 := hS.row.thawed (i * 2)
      have z1 := hS.row.thawed (i * 2 + 1)
      have NX : Hid (∀ (w2 : World) (a2 : Option Addr) (c2 : Nat), Below wr.heap.size wr w2 → OwnsI w2 wr.heap.size a2 ks[i].l c2 → AllSt w (stored w2 w.heap.size i ⟨ks[i].s, a2, c2, ks[i].l⟩) ks (xs.set i ⟨ks[i].s, a2, c2, ks[i].l⟩) (i + 1)) := fun w2 a2 c2 b2 o2 => hS.next hlt b2 o2
      generalize ks[i] = k at *
      obtain ⟨s, a, c, l⟩ := k
      dsimp only at k0 k1 I0 N0 L0 NX
      have hlx : i < xs.length := by rw [hS.len]; exact hlt
      generalize xs[i] = x at *
      obtain ⟨s', a', c', l'⟩ := x
      dsimp only at f0 f1
      have HI : Hid (IsI wr a l) := I0
      have HN : Hid (a = none → l = [] ∧ c = 0) := N0
      have hii : (i : Int) < (ks.length : Int) := by omega
      clear hS hT I0 N0 hlx
      go_wp2_with fail
      refine (alike_any s a c _ l _ rfl HI.out HN.out (by omega)).mono ?_
      rintro e w2 ⟨a2, c2, rfl, o2, b2⟩
      have NY : Hid _ := NX.out w2 a2 c2 b2 o2
      have p0 := bcellK b2 f0
      have p1 := bcellK b2 f1
      have y0 := bfrozenK b2 f0 z0
      have y1 := bfrozenK b2 f1 z1
      clear o2 b2 f0 f1 z0 z1
      go_wp2
      go_roundw
      case rel => exact ⟨i + 1, _, by omega, by go_num, NY.out⟩
      case measure => simp [intOf]; omega
    · obtain rfl : i = ks.length := by omega
      clear hS
      go_wp2
      go_ret
      exact ⟨xs, rfl, HS.out⟩

end Go.Proofs.YtgdjlopnhecmjaaGreatDoor

/- Layer 15: HdP again -/
namespace Go.Proofs.YtgdjlopnhecmjaaGreatDoor
set_option linter.unusedVariables false
set_option maxRecDepth 4000

end Go.Proofs.YtgdjlopnhecmjaaGreatDoor
