/- The place that a place comes to. -/
import Derived.Test.YtbfamjnnlcopiaaGreatDoorGzAL
import Derived.Laws.AppendOwnNone
import Derived.Test.YtbfamjnnlcopiaaGreatDoorAuB
import Derived.Test.YtbfamjnnlcopiaaGreatDoorGzAK
namespace Go.Proofs.YtbfamjnnlcopiaaGreatDoor
open Go.RowKit
set_option linter.unusedVariables false
set_option maxRecDepth 4000

/-- A move with numbers that are not too great. -/
def Mv.Ok (m : Mv) : Prop := 0 ≤ m.fr ∧ m.fr ≤ 1099511627776 ∧ 0 ≤ m.to ∧ m.to ≤ 1099511627776 ∧ 0 ≤ m.ln ∧ m.ln ≤ 1099511627776
/-- The place that a place comes to by a move, by moves. -/
def Mv.go (m : Mv) (x : Int) : Int := if m.fr ≤ x ∧ x < m.fr + m.ln then x + (m.to - m.fr) else x
/-- Moves that can be read. -/
def RdV (w : World) (a : Option Addr) (l : List Mv) : Prop := ∀ i (h : i < l.length), ∃ g o, a = some ⟨g, o, none⟩ ∧ g < w.heap.size ∧ w.cell? ⟨g, o + i * 3, none⟩ = some (.int .i64 l[i].fr) ∧ w.cell? ⟨g, o + i * 3 + 1, none⟩ = some (.int .i64 l[i].to) ∧ w.cell? ⟨g, o + i * 3 + 2, none⟩ = some (.int .i64 l[i].ln)
theorem RdV.keep {w w' : World} {a : Option Addr} {l : List Mv} (h : RdV w a l) (hb : Below w.heap.size w w') : RdV w' a l := fun i hi => by
  obtain ⟨g, o, e, hg, h1, h2, h3⟩ := h i hi
  exact ⟨g, o, e, Nat.lt_of_lt_of_le hg hb.size, bcell hb h1, bcell hb h2, bcell hb h3⟩
end Go.Proofs.YtbfamjnnlcopiaaGreatDoor

/- The document's place that a place comes to; the same moves. -/
namespace Go.Proofs.YtbfamjnnlcopiaaGreatDoor
open Go.RowKit
set_option linter.unusedVariables false
set_option maxRecDepth 4000

end Go.Proofs.YtbfamjnnlcopiaaGreatDoor

/- The document's Copy of spans that are told. -/
namespace Go.Proofs.YtbfamjnnlcopiaaGreatDoor
open Go.RowKit
set_option linter.unusedVariables false
set_option maxRecDepth 4000

theorem app_nil_cap (P : Program) (w : World) (t e : TypeId) (i : TypeInfo) (ht : P.underlying t = some (.slice e)) (hi : P.info? e = some i) (ty : TypeId) (b : Addr) (k : Nat) : (Builtin.append_ #[t, t] ty #[.slice (some b) 0 0, .slice none 0 k]).run P w = (Builtin.append_ #[t, t] ty #[.slice (some b) 0 0, .slice none 0 0]).run P w := by
  rfl
/-- Numbers of any list put behind none: a list of one's own. -/
theorem appAll_run (B : Nat) (w : World) (hB : B ≤ w.heap.size) (g0 : Nat) (h : OwnsI w B (some ⟨g0, 0, none⟩) [] 0) (la : Option Addr) (l : List Int) (n lk : Nat) (hn : l.length = n) (hI : IsI w la l) (hl : l.length ≤ 17592186044416) :
    ∃ a' cap' w', (Builtin.append_ #[31, 31] 31 #[.slice (some ⟨g0, 0, none⟩) 0 0, .slice la n lk]).run Tryz.prog w = .ok (.slice a' n cap') w' ∧ OwnsI w' B a' l cap' ∧ Tu (fun k => k = g0) w w' := by
  subst hn
  obtain ⟨i0, hi, hz0, hz2, hz3⟩ := info_parts Tryz.info3
  cases la with
  | none =>
    obtain ⟨_, rfl | ⟨b, off, e, _⟩⟩ := hI
    · refine ⟨some ⟨g0, 0, none⟩, 0, w, ?_, h, Tu.refl _ _⟩
      show (Builtin.append_ #[31, 31] 31 #[.slice (some ⟨g0, 0, none⟩) 0 0, .slice none 0 lk]).run Tryz.prog w = _
      rw [app_nil_cap Tryz.prog w _ _ _ Tryz.underlying31 hi]
      exact run_append_owned_none (P := Tryz.prog) (w := w) B 31 31 3 i0 1 Tryz.underlying31 hi _ _ _ h
    · cases e
  | some x =>
    obtain ⟨v', w', hr, h2, h3, _, _⟩ := run_append_own_at (P := Tryz.prog) w B 31 31 3 i0 _ 1 8 Tryz.underlying31 hi hz0 hz2 hz3 rfl (by decide) (.slice (some ⟨g0, 0, none⟩) 0 0) 0 ([].map (Value.int .i64)) h x l.length lk (l.map (Value.int .i64)) (by simp) (fun j u hj => by
        have hj' : j < l.length := by have := (List.getElem?_eq_some_iff.1 hj).1; simpa using this
        obtain ⟨_, h0 | ⟨b, off, e, _, hc⟩⟩ := hI
        · rw [h0] at hj'; simp at hj'
        · cases e
          rw [show (⟨b, off, none⟩ : Addr).add j = ⟨b, off + j, none⟩ from by simp [Addr.add], hc j hj']
          rw [List.getElem?_map, List.getElem?_eq_getElem hj'] at hj
          rw [← hj, List.getD_eq_getElem?_getD, List.getElem?_eq_getElem hj']
          rfl) (fun u hu => by obtain ⟨x, _, rfl⟩ := List.mem_map.1 hu; rfl) (by unfold maxLen; omega) (by omega) hB
    simp only [Nat.zero_add, List.map_nil, List.nil_append] at h2
    obtain ⟨a', cap', rfl⟩ := owns_formI h2
    refine ⟨a', cap', w', hr, h2, Tu.grown h3 (fun g hg => ?_)⟩
    have : some g0 = some g := hg
    exact (Option.some.inj this).symm
set_option maxRecDepth 20000 in
set_option maxHeartbeats 4000000 in
theorem rcopy_any (a : Option Addr) (n cap : Nat) (ts : List Td) (w : World) (h : RdT w a ts) (hn : ts.length = n) (hl : n ≤ 100000) (hL : ∀ t ∈ ts, t.l.length ≤ 17592186044416) :
    Calls Tryz.prog 25 #[.slice a n cap] w fun e w' => ∃ a' c', e = .returned (.slice a' n c') ∧ Told w' w.heap.size (.slice a' n c') ts ∧ Below w.heap.size w w' := by
  have H : Hid (RdT w a ts) := h
  have HN : Hid (ts.length = n) := hn
  have HL : Hid (∀ t ∈ ts, t.l.length ≤ 17592186044416) := hL
  clear h hn hL
  go_enter Tryz.func25, Tryz.ntmps25
  go_wp2_with fail
  go_loopw [3, 8] (fun lv iv wr => ∃ (k : Nat) (av : Option Addr) (cv : Nat), k ≤ n ∧ iv = .int .i64 (k : Nat) ∧ lv = .slice av k cv ∧ Told wr w.heap.size (.slice av k cv) (ts.take k) ∧ Below w.heap.size w wr) (fun _ iv _ => n - lenW iv)
  case atStart => exact ⟨0, none, 0, Nat.zero_le _, rfl, rfl, Told.nil _ _, Below.refl _ _⟩
  case round =>
    obtain ⟨k, av, cv, hk, rfl, rfl, ht, hb⟩ := hrel
    rename World => wr
    have HT : Hid (Told wr w.heap.size (.slice av k cv) (ts.take k)) := ht
    have HB : Hid (Below w.heap.size w wr) := hb
    clear ht hb
    by_cases hkn : k < n
    · have hkt : k < ts.length := by rw [HN.out]; exact hkn
      obtain ⟨g, off, la, lk, rfl, c0, c1, c2, c3, hI, hl0⟩ := (H.out.keep HB.out) k hkt
      have hl1 := HL.out ts[k] (List.getElem_mem hkt)
      have ET : ts.take k ++ [ts[k]] = ts.take (k + 1) := (List.take_succ_eq_append_getElem hkt).symm
      obtain ⟨t, ht⟩ : ∃ t, ts[k] = t := ⟨_, rfl⟩
      rw [ht] at c0 c1 c2 c3 hI hl0 hl1 ET
      have HET : Hid (ts.take k ++ [t] = ts.take (k + 1)) := ET
      obtain ⟨p, c, s, l⟩ := t
      simp only at c0 c1 c2 c3 hI hl0 hl1
      obtain ⟨ln, hln⟩ : ∃ ln, l.length = ln := ⟨_, rfl⟩
      have HLN : Hid (l.length = ln) := hln
      rw [hln] at c3
      obtain ⟨E1, hE1⟩ : ∃ E1, wr.alloc (.cells #[.int .i64 p, .int .i64 c, .int .i64 s, .slice la ln lk] 33) = E1 := ⟨_, rfl⟩
      have HE1 : Hid (wr.alloc (.cells #[.int .i64 p, .int .i64 c, .int .i64 s, .slice la ln lk] 33) = E1) := hE1
      have B1 : Below wr.heap.size wr E1 := by rw [← hE1]; exact (Below.refl _ wr).alloc (Nat.le_refl _) _
      have R1 : E1.heap[wr.heap.size]? = some (.cells (dcells p c s la ln lk) 33 (0, 0)) := by rw [← hE1]; exact Go.heap_alloc_new wr _
      have z1 : E1.heap.size = wr.heap.size + 1 := by rw [← hE1]; simp
      obtain ⟨E2, hE2⟩ : ∃ E2, E1.alloc (.cells #[] 3) = E2 := ⟨_, rfl⟩
      have HE2 : Hid (E1.alloc (.cells #[] 3) = E2) := hE2
      have B2 : Below E1.heap.size E1 E2 := by rw [← hE2]; exact (Below.refl _ E1).alloc (Nat.le_refl _) _
      have O2 : OwnsI E2 (wr.heap.size + 1) (some ⟨E1.heap.size, 0, none⟩) [] 0 := by
        rw [← hE2]; exact World.ownsRow_made E1 #[] 0 (by omega) (Nat.zero_le _) rfl
      have R2 := bblock B2 R1
      have hw0 := HB.out.size
      obtain ⟨a9, c9, w9, run9, o9, u9⟩ := appAll_run (wr.heap.size + 1) E2 (by have := B2.size; omega) E1.heap.size O2 la l ln lk hln ((hI.keep B1).keep B2) hl1
      have R9 : w9.heap[wr.heap.size]? = some (.cells (dcells p c s la ln lk) 33 (0, 0)) := u9.block _ _ R2 (by omega)
      have B9 : Below wr.heap.size wr w9 := (B1.trans (B2.mono B1.size)).trans ((u9.below (B := wr.heap.size + 1) (fun i e => by omega) (by have := B2.size; omega)).mono (by omega))
      obtain ⟨X, hX⟩ : ∃ X, w9.setCell ⟨wr.heap.size, 3, none⟩ (.slice a9 ln c9) = X := ⟨_, rfl⟩
      have HX : Hid (w9.setCell ⟨wr.heap.size, 3, none⟩ (.slice a9 ln c9) = X) := hX
      have on : Only wr.heap.size w9 X := by rw [← hX]; exact Only.set _ 3 _ w9
      have RX : X.heap[wr.heap.size]? = some (.cells (dcells p c s a9 ln c9) 33 (0, 0)) := by
        rw [← hX, heap_put R9]; simp [dcells]
      have BX : Below wr.heap.size wr X := B9.trans (on.below (Nat.le_refl _))
      have OX : OwnsI X (wr.heap.size + 1) a9 l c9 := by
        obtain ⟨h0, h1 | ⟨g', c'', cur, h1, hb, h3, h4⟩⟩ := o9
        · exact ⟨h0, .inl h1⟩
        · exact ⟨h0, .inr ⟨g', c'', cur, h1, hb, by rw [on.block g' (by omega)]; exact h3, h4⟩⟩
      obtain ⟨D, hD⟩ : ∃ D, X.alloc (.cells #[.int .i64 p, .int .i64 c, .int .i64 s, .slice a9 ln c9] 33) = D := ⟨_, rfl⟩
      have HD : Hid (X.alloc (.cells #[.int .i64 p, .int .i64 c, .int .i64 s, .slice a9 ln c9] 33) = D) := hD
      have bD : Below X.heap.size X D := by rw [← hD]; exact (Below.refl _ X).alloc (Nat.le_refl _) _
      have RD : Hid (D.heap[X.heap.size]? = some (.cells (dcells p c s a9 ln c9) 33 (0, 0))) := by show _ = _; rw [← hD]; exact Go.heap_alloc_new X _
      have B0 : Below wr.heap.size wr D := BX.trans (bD.mono BX.size)
      have TD : Hid (Told D w.heap.size (.slice av k cv) (ts.take k)) := HT.out.keep B0
      have BD : Hid (Below w.heap.size w D) := HB.out.trans (B0.mono HB.out.size)
      have OD : Hid (OwnsI D w.heap.size a9 l c9) := (OX.keep bD).mono (by omega)
      have KL : Hid ((ts.take k).length = k) := by show _ = _; rw [List.length_take, HN.out]; omega
      have LN : Hid ((ts.take k).length ≤ 100000) := by show _ ≤ _; rw [KL.out]; omega
      have RUN9 : Hid ((Builtin.append_ #[31, 31] 31 #[.slice (some ⟨E1.heap.size, 0, none⟩) 0 0, .slice la ln lk]).run Tryz.prog E2 = .ok (.slice a9 ln c9) w9) := run9
      have e3 := dcell3 R2
      have d3 := dcell3 R1
      have f9 : w9.frozen? ⟨wr.heap.size, 3, none⟩ = false := frozen_of_row _ _ _ _ _ R9
      have y3 := dcell3 R9
      have x0 := dcell0 RX
      have x1 := dcell1 RX
      have x2 := dcell2 RX
      have x3 := dcell3 RX
      have k0 : (k : Int) < (n : Int) := by omega
      clear hI hl0 hl1 ET ht hln B1 R1 z1 B2 O2 R2 hw0 run9 o9 u9 B9 on RX BX OX bD B0 R9 hE1
      go_upto_region 5 with (fail)
      rw [HE1.out]
      go_wp2_with (first
        | (have q9 := f9; at_builtin; (try rw [HE2.out]); refine wpList_runi rfl rfl _ _ rfl (.slice (some ⟨E1.heap.size, 0, none⟩) 0 0) (.slice la ln lk) _ _ rfl rfl RUN9.out ?_; clear f9)
        | (at_builtin; (try rw [HX.out]); (try rw [HD.out]); refine wpList_told rfl _ _ rfl w.heap.size BD.out.size av k cv (ts.take k) rfl KL.out TD.out _ 1 ⟨⟨p, c, s, l⟩, a9, c9⟩ ln HLN.out rfl RD.out OD.out LN.out ?_; intro a4 c4 w4 t4 b4; have T4 : Hid (Told w4 w.heap.size (.slice a4 (k + 1) c4) (ts.take (k + 1))) := (by rw [← HET.out]; exact t4); have B4 : Hid (Below w.heap.size w w4) := BD.out.trans b4; clear t4 b4))
      go_roundw
      case rel => exact ⟨k + 1, a4, c4, by omega, by congr 1, rfl, T4.out, B4.out⟩
      case measure => simp [lenW]; omega
    · obtain rfl : k = n := by omega
      have F : Hid (Told wr w.heap.size (.slice av k cv) ts) := by
        have := HT.out
        rw [List.take_of_length_le (Nat.le_of_eq HN.out)] at this
        exact this
      go_wp2
      go_ret
      exact ⟨av, cv, rfl, F.out, HB.out⟩
end Go.Proofs.YtbfamjnnlcopiaaGreatDoor

/- Plain mathematics of layer 13: what was slid together stands, and is slid no more. -/
namespace Go.Proofs.YtbfamjnnlcopiaaGreatDoor
set_option linter.unusedVariables false
set_option maxRecDepth 4000

/-- The spans that have slots that are taken. -/
def keepL (m : List Sn) (F : Nat → Nat → Bool) (k : Nat) : List Nat := (List.range k).filter (hasS m F)
end Go.Proofs.YtbfamjnnlcopiaaGreatDoor

/- Plain mathematics of layer 13: what a plan tells is slid together. -/
namespace Go.Proofs.YtbfamjnnlcopiaaGreatDoor
set_option linter.unusedVariables false
set_option maxRecDepth 4000

def kept (m : List Sn) (F : Nat → Nat → Bool) : List Nat := keepL m (clsF m F 7) m.length
end Go.Proofs.YtbfamjnnlcopiaaGreatDoor

/- Plain mathematics of layer 13: all moves go downwards. -/
namespace Go.Proofs.YtbfamjnnlcopiaaGreatDoor
set_option linter.unusedVariables false
set_option maxRecDepth 4000

end Go.Proofs.YtbfamjnnlcopiaaGreatDoor

/- What Plan answers, said ahead; Right; the document's example. -/
namespace Go.Proofs.YtbfamjnnlcopiaaGreatDoor
open Go.RowKit
set_option linter.unusedVariables false
set_option maxRecDepth 4000

theorem lright_any (P : Int) (a : Option Addr) (n cap : Nat) (ts : List Td) (w : World) (hT : Tabs w) (h : RdT w a ts) (hn : ts.length = n) (hn9 : n ≤ 4000000000000000000) (hr : ∀ t ∈ ts, -9223372036854775808 ≤ t.p ∧ t.p ≤ 9223372036854775807) (r : Bool) (hR : stdB P ts = r) :
    Calls Tryz.prog 129 #[.int .i64 P, .slice a n cap] w fun e w' => e = .returned (.bool r) ∧ Below w.heap.size w w' := by
  have HT : Hid (Tabs w) := hT
  have H : Hid (RdT w a ts) := h
  have HN : Hid (ts.length = n) := hn
  have HRG : Hid (∀ t ∈ ts, -9223372036854775808 ≤ t.p ∧ t.p ≤ 9223372036854775807) := hr
  have HR : Hid (stdB P ts = r) := hR
  clear hT h hn hr hR
  go_enter Tryz.func129, Tryz.ntmps129
  go_wp2_with fail
  refine (stand_any P a n cap ts _ HT.out H.out HN.out hn9 HRG.out r HR.out).mono ?_
  rintro e w1 (⟨rfl, a1, c1, L, ps, rfl, hst⟩ | ⟨rfl, rfl, b1⟩)
  · have B1 : Hid (Below w.heap.size w w1) := hst.bel
    clear hst
    go_wp2
    go_ret
    exact ⟨rfl, B1.out⟩
  · have B1 : Hid (Below w.heap.size w w1) := b1
    clear b1
    go_wp2
    go_ret
    exact ⟨rfl, B1.out⟩
end Go.Proofs.YtbfamjnnlcopiaaGreatDoor

/- A view: its numbers, the seven rules, and how it lies in memory. -/
namespace Go.Proofs.YtbfamjnnlcopiaaGreatDoor
open Go.RowKit
set_option linter.unusedVariables false
set_option maxRecDepth 4000

/-- A kind's numbers. -/
structure Kn where
  (s : Int) (l : List Int)
/-- A view's numbers. -/
structure Vw where
  (base pgs : Int) (ks : List Kn) (rs : List HRw) (ts : List Td) (bs : List Int)
def knD (ks : List Kn) (i : Nat) : Kn := ks.getD i ⟨0, []⟩
def rwD (rs : List HRw) (i : Nat) : HRw := rs.getD i ⟨0, false, 0, 0⟩
theorem knD_at {ks : List Kn} {i : Nat} (h : i < ks.length) : knD ks i = ks[i] := by simp [knD, List.getD, h]
theorem rwD_at {rs : List HRw} {i : Nat} (h : i < rs.length) : rwD rs i = rs[i] := by simp [rwD, List.getD, h]
/-- The first live row of a place. -/
def ownI (rs : List HRw) (x : Int) : Option Nat := rs.findIdx? (fun r => r.live && decide (r.pl = x))
theorem own_some {rs : List HRw} {x : Int} {i : Nat} (h : ownI rs x = some i) : i < rs.length ∧ (rwD rs i).live = true ∧ (rwD rs i).pl = x ∧ ∀ j, j < i → ¬ ((rwD rs j).live = true ∧ (rwD rs j).pl = x) := by
  unfold ownI at h
  obtain ⟨hi, h1, h2⟩ := List.findIdx?_eq_some_iff_getElem.1 h
  rw [Bool.and_eq_true] at h1
  refine ⟨hi, ?_⟩
  rw [rwD_at hi]
  refine ⟨h1.1, of_decide_eq_true h1.2, fun j hj hh => ?_⟩
  have := h2 j hj
  rw [rwD_at (by omega)] at hh
  simp [hh.1, hh.2] at this
theorem own_none {rs : List HRw} {x : Int} (h : ownI rs x = none) : ∀ j, j < rs.length → ¬ ((rwD rs j).live = true ∧ (rwD rs j).pl = x) := fun j hj hh => by
  unfold ownI at h
  have := List.findIdx?_eq_none_iff.1 h rs[j] (List.getElem_mem hj)
  rw [rwD_at hj] at hh
  simp [hh.1, hh.2] at this
theorem own_is {rs : List HRw} {x : Int} {i : Nat} (hi : i < rs.length) (h1 : (rwD rs i).live = true) (h2 : (rwD rs i).pl = x) (h3 : ∀ j, j < i → ¬ ((rwD rs j).live = true ∧ (rwD rs j).pl = x)) : ownI rs x = some i := by
  cases e : ownI rs x with
  | none => exact absurd ⟨h1, h2⟩ (own_none e i hi)
  | some k =>
    obtain ⟨k1, k2, k3, k4⟩ := own_some e
    rcases Nat.lt_trichotomy k i with g | g | g
    · exact absurd ⟨k2, k3⟩ (h3 k g)
    · rw [g]
    · exact absurd ⟨h1, h2⟩ (k4 i g)
/-- Where a slot begins. -/
def atS (t : Td) (i : Int) : Int := 256 * t.p + i * szI t.c t.s
/-- A span for objects of so many bytes. -/
def fitS (t : Td) (z : Int) : Bool := decide (t.c = ofI z ∧ (t.c = 7 → t.s = z))
def slotB (ts : List Td) (x z : Int) : Bool := ts.any fun t => fitS t z && t.l.any fun i => decide (atS t i = x)
def liesB (V : Vw) (r : HRw) : Bool := decide (0 ≤ r.kind ∧ r.kind < V.ks.length) && slotB V.ts r.pl (knD V.ks r.kind.toNat).s
def wordV (bs : List Int) (o : Int) : Int := getL ((bs.drop o.toNat).take 8)
def leads (V : Vw) (x : Int) : Bool := decide (x = 0) || (ownI V.rs (x - V.base)).isSome
/-- The rules. -/
def rule1 (V : Vw) : Bool := decide (1 ≤ V.pgs ∧ V.pgs ≤ 4096 ∧ goodR V.base ∧ (V.bs.length : Int) = V.pgs * 256 ∧ V.ks.length ≤ 64 ∧ V.rs.length ≤ 4096)
def rule2 (V : Vw) (i : Nat) : Bool := decide (checkK (knD V.ks i).s (knD V.ks i).l = 0)
def rule3 (V : Vw) (i : Nat) : Bool := okT V.pgs V.ts i
def rule4 (V : Vw) (i : Nat) : Bool := decide (0 ≤ (rwD V.rs i).gen ∧ (rwD V.rs i).gen ≤ 65535) && (if (rwD V.rs i).live = true then decide (1 ≤ (rwD V.rs i).gen) && liesB V (rwD V.rs i) else decide ((rwD V.rs i).kind = 0 ∧ (rwD V.rs i).pl = 0 ∧ ¬ ((rwD V.rs i).gen = 0 ∧ i + 1 = V.rs.length)))
def rule5 (V : Vw) (i : Nat) : Bool := !(rwD V.rs i).live || decide (ownI V.rs (rwD V.rs i).pl = some i)
def rule6 (V : Vw) (i : Nat) : Bool := (tdD V.ts i).l.all fun x => (ownI V.rs (atS (tdD V.ts i) x)).isSome
def rule7 (V : Vw) (i : Nat) : Bool := !(rwD V.rs i).live || (knD V.ks (rwD V.rs i).kind.toNat).l.all fun p => leads V (wordV V.bs ((rwD V.rs i).pl + p))
def ruF (V : Vw) : Nat → Nat → Bool
  | 0 => fun _ => rule1 V
  | 1 => rule2 V
  | 2 => rule3 V
  | 3 => rule4 V
  | 4 => rule5 V
  | 5 => rule6 V
  | _ => rule7 V
def ruN (V : Vw) : Nat → Nat
  | 0 => 1
  | 1 => V.ks.length
  | 2 => V.ts.length
  | 3 => V.rs.length
  | 4 => V.rs.length
  | 5 => V.ts.length
  | _ => V.rs.length
/-- The first j rules hold. -/
def Hold (V : Vw) (j : Nat) : Prop := ∀ k, k < j → ∀ i, i < ruN V k → ruF V k i = true
/-- What Check answers. -/
def ChkR (V : Vw) (r x : Int) : Prop := (r = 0 ∧ x = 0 ∧ Hold V 7) ∨ ∃ j i : Nat, j < 7 ∧ i < ruN V j ∧ r = (j : Int) + 1 ∧ x = (i : Int) ∧ ruF V j i = false ∧ (∀ k, k < i → ruF V j k = true) ∧ Hold V j
theorem ChkR.one {V : Vw} {r x s y : Int} (h : ChkR V r x) (k : ChkR V s y) : r = s ∧ x = y := by
  rcases h with ⟨rfl, rfl, h⟩ | ⟨j, i, h1, h2, rfl, rfl, h3, h4, h5⟩ <;> rcases k with ⟨rfl, rfl, k⟩ | ⟨j', i', k1, k2, rfl, rfl, k3, k4, k5⟩
  · exact ⟨rfl, rfl⟩
  · rw [h j' k1 i' k2] at k3; cases k3
  · rw [k j h1 i h2] at h3; cases h3
  · rcases Nat.lt_trichotomy j j' with e | rfl | e
    · rw [k5 j e i h2] at h3; cases h3
    · rcases Nat.lt_trichotomy i i' with e | rfl | e
      · rw [k4 i e] at h3; cases h3
      · exact ⟨rfl, rfl⟩
      · rw [h4 i' e] at k3; cases k3
    · rw [h5 j' e i' k2] at k3; cases k3
theorem ChkR.zero {V : Vw} {r x : Int} (h : ChkR V r x) : r = 0 ↔ Hold V 7 := by
  refine ⟨fun e => ?_, fun k => (h.one (.inl ⟨rfl, rfl, k⟩)).1⟩
  rcases h with ⟨_, _, h⟩ | ⟨j, i, _, _, h, _⟩
  · exact h
  · omega
theorem Hold.mono {V : Vw} {j k : Nat} (h : Hold V k) (hj : j ≤ k) : Hold V j := fun q hq i hi => h q (by omega) i hi
/-- What the first rules say. -/
theorem Hold.r1 {V : Vw} {j : Nat} (h : Hold V j) (hj : 1 ≤ j) : 1 ≤ V.pgs ∧ V.pgs ≤ 4096 ∧ goodR V.base ∧ (V.bs.length : Int) = V.pgs * 256 ∧ V.ks.length ≤ 64 ∧ V.rs.length ≤ 4096 := of_decide_eq_true (h 0 hj 0 (by show 0 < 1; decide))
theorem Hold.r2 {V : Vw} {j : Nat} (h : Hold V j) (hj : 2 ≤ j) (i : Nat) (hi : i < V.ks.length) : checkK (knD V.ks i).s (knD V.ks i).l = 0 := of_decide_eq_true (h 1 hj i hi)
theorem Hold.r3 {V : Vw} {j : Nat} (h : Hold V j) (hj : 3 ≤ j) (i : Nat) (hi : i < V.ts.length) : okT V.pgs V.ts i = true := h 2 hj i hi
theorem Hold.std {V : Vw} {j : Nat} (h : Hold V j) (hj : 3 ≤ j) : stdB V.pgs V.ts = true := by
  unfold stdB
  have h1 := h.r1 (by omega)
  rw [decide_eq_true ⟨h1.1, h1.2.1⟩, Bool.true_and]
  have : ∀ n, n ≤ V.ts.length → stdU V.pgs V.ts n = true := by
    intro n
    induction n with
    | zero => intro _; rfl
    | succ n ih => intro hn; rw [stdU, ih (by omega), h.r3 hj n (by omega)]; rfl
  exact this _ (Nat.le_refl _)
theorem checkK_ok {s : Int} {l : List Int} (h : checkK s l = 0) : 1 ≤ s ∧ s ≤ 4096 ∧ l.length ≤ 16 ∧ placedB s 0 l = true := by
  unfold checkK at h
  split at h
  · cases h
  · split at h
    · cases h
    · split at h
      · exact ⟨by omega, by omega, by omega, by assumption⟩
      · cases h

/-- Where a view's lists lie. -/
structure Va where
  (ka ra sa ba : Option Addr) (kn rn sn bn kc rc sc bc : Nat)
/-- Kinds that can be read. -/
def RdK (w : World) (a : Option Addr) (ks : List Kn) : Prop := ∀ i (h : i < ks.length), ∃ (g o : Nat) (la : Option Addr) (lc : Nat), a = some ⟨g, o, none⟩ ∧ w.cell? ⟨g, o + i * 2, none⟩ = some (.int .i64 ks[i].s) ∧ w.cell? ⟨g, o + i * 2 + 1, none⟩ = some (.slice la ks[i].l.length lc) ∧ IsI w la ks[i].l ∧ (la = none → ks[i].l = [] ∧ lc = 0) ∧ ks[i].l.length ≤ maxLen
theorem RdK.keep {w w' : World} {a : Option Addr} {ks : List Kn} (h : RdK w a ks) (hb : Below w.heap.size w w') : RdK w' a ks := fun i hi => by
  obtain ⟨g, o, la, lc, e, c0, c1, hI, hn, hm⟩ := h i hi
  exact ⟨g, o, la, lc, e, bcell hb c0, bcell hb c1, hI.keep hb, hn, hm⟩
def i64 (x : Int) : Prop := -9223372036854775808 ≤ x ∧ x ≤ 9223372036854775807
/-- A view that can be read. -/
structure Rv (w : World) (V : Vw) (A : Va) : Prop where
  kl : V.ks.length = A.kn
  rl : V.rs.length = A.rn
  sl : V.ts.length = A.sn
  bl : V.bs.length = A.bn
  ks : RdK w A.ka V.ks
  rs : IsW w A.ra V.rs
  ts : RdT w A.sa V.ts
  bs : IsB w A.ba V.bs
  bi : i64 V.base
  pi : i64 V.pgs
  ti : ∀ t ∈ V.ts, i64 t.p
  ri : ∀ r ∈ V.rs, i64 r.pl ∧ i64 r.kind ∧ i64 r.gen
  kz : V.ks.length ≤ 64
  rz : V.rs.length ≤ 300
  tz : V.ts.length ≤ 64
  bz : V.bs.length ≤ 16384
  sk : A.sn ≤ A.sc ∧ A.sc ≤ 9223372036854775807
  bk : A.bn ≤ A.bc ∧ A.bc ≤ 9223372036854775807
theorem Rv.keep {w w' : World} {V : Vw} {A : Va} (h : Rv w V A) (hb : Below w.heap.size w w') : Rv w' V A :=
  ⟨h.kl, h.rl, h.sl, h.bl, h.ks.keep hb, h.rs.keep hb, h.ts.keep hb, h.bs.keep hb, h.bi, h.pi, h.ti, h.ri, h.kz, h.rz, h.tz, h.bz, h.sk, h.bk⟩
/-- A span that is right. -/
def rightT (t : Td) : Prop := newE t.p t.c t.s = 0 ∧ okL (slN t.c) (-1) t.l = true
/-- What is looked up of a view. -/
structure Lk (w : World) (lb ms mi : Nat) (V : Vw) (A : Va) (nf nr : Nat) (f : Int → Option Nat) : Prop where
  box : w.heap[lb]? = some (.cells #[.int .i64 V.base, .int .i64 V.pgs, .slice A.ka A.kn A.kc, .slice A.ra A.rn A.rc, .slice A.sa A.sn A.sc, .slice A.ba A.bn A.bc, .map (some ms), .map (some mi)] 142 (0, 0))
  vw : Rv w V A
  sp : MapP w ms nf f
  on : MapI w mi nr (ownI V.rs)
  f1 : ∀ q p, f q = some p → ∃ i, i < V.ts.length ∧ rightT (tdD V.ts i) ∧ (tdD V.ts i).p = q ∧ ∃ b g, SpanAt w p b g (tdD V.ts i).p (tdD V.ts i).c (tdD V.ts i).s (fOf (tdD V.ts i).l)
  f2 : ∀ i, i < V.ts.length → rightT (tdD V.ts i) → (f (tdD V.ts i).p).isSome = true
  tab : Tabs w
theorem Lk.keep {w w' : World} {lb ms mi : Nat} {V : Vw} {A : Va} {nf nr : Nat} {f : Int → Option Nat} (h : Lk w lb ms mi V A nf nr f) (hb : Below w.heap.size w w') : Lk w' lb ms mi V A nf nr f :=
  ⟨by rw [hb.block lb (hlt h.box)]; exact h.box, h.vw.keep hb, h.sp.keep hb, h.on.keep hb, fun q p hq => by
    obtain ⟨i, h1, h2, h3, b, g, h4⟩ := h.f1 q p hq
    exact ⟨i, h1, h2, h3, b, g, h4.keep hb⟩, h.f2, h.tab.keep hb⟩
end Go.Proofs.YtbfamjnnlcopiaaGreatDoor
