/- Slices of kinds; all kinds of a table: what All and the document's All answer. -/
import Derived.Test.YtkcnanpojnbepaaKfB
import Derived.Test.YtkcnanpojnbepaaKdH
namespace Go.Proofs.Ytkcnanpojnbepaa
open Go.RowKit
set_option linter.unusedVariables false

/-- A slice of kinds. -/
structure IsK (w : World) (a : Option Addr) (ks : List Kd) : Prop where
  at' : ks = [] ∨ ∃ b off, a = some ⟨b, off, none⟩ ∧ b < w.heap.size ∧ ∀ i (h : i < ks.length), w.cell? ⟨b, off + i * 2, none⟩ = some (.int .i64 ks[i].s) ∧ w.cell? ⟨b, off + i * 2 + 1, none⟩ = some (.slice ks[i].a ks[i].l.length ks[i].c)
  body : ∀ k ∈ ks, IsI w k.a k.l ∧ (k.a = none → k.l = [] ∧ k.c = 0) ∧ k.l.length ≤ maxLen
theorem IsK.keep {w w' : World} {a : Option Addr} {ks : List Kd} (h : IsK w a ks) (hb : Below w.heap.size w w') : IsK w' a ks where
  at' := by
    rcases h.at' with h0 | ⟨b, off, e, hs, hc⟩
    · exact .inl h0
    · refine .inr ⟨b, off, e, by have := hb.size; omega, fun i hi => ?_⟩
      rw [hb.cell (p := ⟨b, off + i * 2, none⟩) hs, hb.cell (p := ⟨b, off + i * 2 + 1, none⟩) hs]
      exact hc i hi
  body := fun k hk => ⟨(h.body k hk).1.keep hb, (h.body k hk).2⟩
theorem RowK.isK {w : World} {base cap : Nat} {a : Option Addr} {ks : List Kd} (h : RowK w base a ks cap) (hb : ∀ k ∈ ks, IsI w k.a k.l ∧ (k.a = none → k.l = [] ∧ k.c = 0) ∧ k.l.length ≤ maxLen) : IsK w a ks := by
  refine ⟨?_, hb⟩
  have h' := h
  obtain ⟨_, ⟨h1, h2⟩ | ⟨g, c', cur, h1, hg, h2, _⟩⟩ := h
  · exact .inl (List.eq_nil_of_length_eq_zero h2)
  · cases h1
    refine .inr ⟨g, 0, rfl, (Array.getElem?_eq_some_iff.1 h2).1, fun i hi => ?_⟩
    obtain ⟨e0, e1⟩ := cellsK_at ks i hi
    rw [Nat.zero_add, World.ownsRow.cellAt h' (i * 2) (by omega), World.ownsRow.cellAt h' (i * 2 + 1) (by omega)]
    exact ⟨e0, e1⟩

def zeroK : Kd := ⟨0, none, 0, []⟩
theorem made_K (n : Nat) : madeCells #[.int .i64 0, .slice none 0 0] (n * 2) = (cellsK (List.replicate n zeroK)).toArray := by
  apply Array.ext'
  simp only [madeCells]
  apply List.ext_getElem
  · simp [cellsK_len]
  · intro j h1 h2
    simp only [cellsK_len, List.length_replicate] at h2
    have hi : j / 2 < (List.replicate n zeroK).length := by simp; omega
    obtain ⟨e0, e1⟩ := cellsK_at (List.replicate n zeroK) (j / 2) hi
    simp only [List.getElem_replicate] at e0 e1
    have hlt : j < (cellsK (List.replicate n zeroK)).length := by simp [cellsK_len]; omega
    rcases Nat.mod_two_eq_zero_or_one j with hj | hj
    · rw [show j / 2 * 2 = j from by omega, List.getElem?_eq_getElem hlt] at e0
      have := Option.some.inj e0
      simp [hj]
      exact this.symm
    · rw [show j / 2 * 2 + 1 = j from by omega, List.getElem?_eq_getElem hlt] at e1
      have := Option.some.inj e1
      simp [hj]
      exact this.symm
theorem make_K (w : World) (n : Nat) (hn : n ≤ 1000000) : (Instr.makeSlice 50 (.int .i64 (n : Nat)) (.int .i64 (n : Nat))).run Try.prog w = .ok (.slice (some ⟨w.heap.size, 0, none⟩) n n) (w.alloc (.cells (cellsK (List.replicate n zeroK)).toArray 24)) := by
  obtain ⟨i0, hi0, hz0, hs0, hb0⟩ := info_parts Try.infoK
  have h := run_make (P := Try.prog) w 50 24 i0 _ Try.underlying50 hi0 hz0 .i64 .i64 (n : Int) (n : Int) (by omega) (Int.le_refl _) (by rw [hb0]; omega) (by omega)
  rw [h, hs0]
  simp only [Int.toNat_natCast, Value.cells, made_K]

/-- A row of kinds that fills its block. -/
def FullK (w : World) (g : Nat) (xs : List Kd) : Prop := w.heap[g]? = some (.cells (cellsK xs).toArray 24 (0, 0))
theorem FullK.lt {w : World} {g : Nat} {xs : List Kd} (h : FullK w g xs) : g < w.heap.size := (Array.getElem?_eq_some_iff.1 h).1
theorem FullK.cells {w : World} {g : Nat} {xs : List Kd} (h : FullK w g xs) (i : Nat) (hi : i < xs.length) : w.cell? ⟨g, i * 2, none⟩ = some (.int .i64 xs[i].s) ∧ w.cell? ⟨g, i * 2 + 1, none⟩ = some (.slice xs[i].a xs[i].l.length xs[i].c) := by
  obtain ⟨e0, e1⟩ := cellsK_at xs i hi
  exact ⟨by rw [cell_of_row w g _ _ _ _ h]; simpa using e0, by rw [cell_of_row w g _ _ _ _ h]; simpa using e1⟩
theorem FullK.thawed {w : World} {g : Nat} {xs : List Kd} (h : FullK w g xs) (i : Nat) : w.frozen? ⟨g, i, none⟩ = false := frozen_of_row w g i _ _ h
theorem FullK.keep {w w' : World} {g : Nat} {xs : List Kd} (h : FullK w g xs) (hb : Below w.heap.size w w') : FullK w' g xs := by
  show w'.heap[g]? = _; rw [hb.block g h.lt]; exact h
/-- A kind is stored into a row. -/
def stored (w : World) (g i : Nat) (k : Kd) : World := (w.setCell ⟨g, i * 2, none⟩ (.int .i64 k.s)).setCell ⟨g, i * 2 + 1, none⟩ (.slice k.a k.l.length k.c)
theorem FullK.stored {w : World} {g : Nat} {xs : List Kd} (h : FullK w g xs) (i : Nat) (hi : i < xs.length) (k : Kd) : FullK (stored w g i k) g (xs.set i k) := by
  have h1 := heap_setCell_same w g (i * 2) _ _ (.int .i64 k.s) h
  have h2 := heap_setCell_same (w.setCell ⟨g, i * 2, none⟩ (.int .i64 k.s)) g (i * 2 + 1) _ _ (.slice k.a k.l.length k.c) h1
  show (Go.Proofs.Ytkcnanpojnbepaa.stored w g i k).heap[g]? = _
  unfold Go.Proofs.Ytkcnanpojnbepaa.stored
  rw [h2, ← cellsK_set xs i k hi]
  simp
theorem stored_only (w : World) (g i : Nat) (k : Kd) : Only g w (stored w g i k) := (Only.set g _ _ w).trans (Only.set g _ _ _)
/-- A list stays where a row of kinds turns. -/
theorem OwnsI.only {w w' : World} {lb g c : Nat} {a : Option Addr} {l : List Int} {cs : Array Value} (h : OwnsI w lb a l c) (hg : w.heap[g]? = some (.cells cs 24 (0, 0))) (on : Only g w w') : OwnsI w' lb a l c := by
  have ap := box_apart hg h (by decide)
  obtain ⟨h0, h1 | ⟨q, c', cur, h1, hg1, h2, h3⟩⟩ := h
  · exact ⟨h0, .inl h1⟩
  · refine ⟨h0, .inr ⟨q, c', cur, h1, hg1, ?_, h3⟩⟩
    rw [on.block q (fun e => by subst e; rw [h1] at ap; exact ap rfl)]
    exact h2

/-- Under way: so many kinds are there. -/
structure AllSt (w wr : World) (ks xs : List Kd) (i : Nat) : Prop where
  row : FullK wr w.heap.size xs
  len : xs.length = ks.length
  done : ∀ j (h : j < ks.length) (h' : j < xs.length), j < i → xs[j].s = ks[j].s ∧ xs[j].l = ks[j].l ∧ OwnsI wr w.heap.size xs[j].a xs[j].l xs[j].c
  below : Below w.heap.size w wr
theorem AllSt.next {w wr w2 : World} {ks xs : List Kd} {i : Nat} (h : AllSt w wr ks xs i) (hi : i < ks.length) {a2 : Option Addr} {c2 : Nat} (b2 : Below wr.heap.size wr w2) (o2 : OwnsI w2 wr.heap.size a2 ks[i].l c2) :
    AllSt w (stored w2 w.heap.size i ⟨ks[i].s, a2, c2, ks[i].l⟩) ks (xs.set i ⟨ks[i].s, a2, c2, ks[i].l⟩) (i + 1) := by
  have r2 := h.row.keep b2
  have hlen := h.len
  have on := stored_only w2 w.heap.size i ⟨ks[i].s, a2, c2, ks[i].l⟩
  have bs := h.below.size
  refine ⟨r2.stored i (by omega) _, by simp [h.len], fun j hj hj' hji => ?_, (h.below.trans (b2.mono bs)).trans (on.below (Nat.le_refl _))⟩
  by_cases e : j = i
  · subst e
    simp only [List.getElem_set_self]
    exact ⟨trivial, trivial, (o2.mono bs).only r2 on⟩
  · rw [List.getElem_set_ne (by omega)]
    obtain ⟨h1, h2, h3⟩ := h.done j hj (by omega) (by omega)
    exact ⟨h1, h2, (h3.keep b2).only r2 on⟩

set_option maxRecDepth 20000 in
set_option maxHeartbeats 4000000 in
theorem tall_any (base lb t : Nat) (ar : Option Addr) (cr : Nat) (ks : List Kd) (w : World) (h : Tb w base lb t ar cr ks) :
    Calls Try.prog 32 #[.pointer (some ⟨t, 0, none⟩)] w fun e w' => ∃ xs : List Kd, e = .returned (.slice (some ⟨w.heap.size, 0, none⟩) ks.length ks.length) ∧ AllSt w w' ks xs ks.length := by
  have HT : Hid (Tb w base lb t ar cr ks) := h
  have hlen := h.len
  have hmk := make_K w ks.length (by omega)
  have S0 : Hid (AllSt w (w.alloc (.cells (cellsK (List.replicate ks.length zeroK)).toArray 24)) ks (List.replicate ks.length zeroK) 0) :=
    ⟨Go.heap_alloc_new w _, by simp, fun j hj hj' hji => by omega, (Below.refl _ w).alloc (Nat.le_refl _) _⟩
  clear h
  go_enter Try.func32, Try.ntmps32
  go_wp2_with (go_at_call 30; refine (tlen_any base lb t ar cr ks _ HT.out).mono ?_; rintro e w' ⟨rfl, rfl⟩)
  go_loopw [10] (fun iv wr => ∃ (i : Nat) (xs : List Kd), i ≤ ks.length ∧ iv = .int .i64 i ∧ AllSt w wr ks xs i) (fun iv _ => ks.length - (intOf iv).toNat)
  case atStart => exact ⟨0, _, Nat.zero_le _, rfl, S0.out⟩
  case round =>
    obtain ⟨i, xs, hi, rfl, hS⟩ := hrel
    have HS : Hid (AllSt w wr ks xs i) := hS
    by_cases hlt : i < ks.length
    · have hT := HT.out.keep hS.below
      have c0 := hT.cell
      obtain ⟨g, rfl, hg, k0, k1⟩ := hT.row.cells i hlt
      obtain ⟨I0, N0, L0⟩ := hT.isI ks[i] (List.getElem_mem hlt)
      obtain ⟨f0, f1⟩ := hS.row.cells i (by rw [hS.len]; exact hlt)
      have z0 := hS.row.thawed (i * 2)
      have z1 := hS.row.thawed (i * 2 + 1)
      have NX : Hid (∀ (w2 : World) (a2 : Option Addr) (c2 : Nat), Below wr.heap.size wr w2 → OwnsI w2 wr.heap.size a2 ks[i].l c2 → AllSt w (stored w2 w.heap.size i ⟨ks[i].s, a2, c2, ks[i].l⟩) ks (xs.set i ⟨ks[i].s, a2, c2, ks[i].l⟩) (i + 1)) := fun w2 a2 c2 b2 o2 => hS.next hlt b2 o2
      generalize ks[i] = k at *
      obtain ⟨s, a, c, l⟩ := k
      dsimp only at k0 k1 I0 N0 L0 NX
      have hlx : i < xs.length := by rw [hS.len]; exact hlt
      generalize xs[i] = x at *
      obtain ⟨s', a', c', l'⟩ := x
      dsimp only at f0 f1
      have HI : Hid (IsI wr a l) := I0
      have HN : Hid (a = none → l = [] ∧ c = 0) := N0
      have hii : (i : Int) < (ks.length : Int) := by omega
      clear hS hT I0 N0 hlx
      go_wp2_with fail
      refine (alike_any s a c _ l _ rfl HI.out HN.out (by omega)).mono ?_
      rintro e w2 ⟨a2, c2, rfl, o2, b2⟩
      have NY : Hid _ := NX.out w2 a2 c2 b2 o2
      have p0 := bcellK b2 f0
      have p1 := bcellK b2 f1
      have y0 := bfrozenK b2 f0 z0
      have y1 := bfrozenK b2 f1 z1
      clear o2 b2 f0 f1 z0 z1
      go_wp2
      go_roundw
      case rel => exact ⟨i + 1, _, by omega, by go_num, NY.out⟩
      case measure => simp [intOf]; omega
    · obtain rfl : i = ks.length := by omega
      clear hS
      go_wp2
      go_ret
      exact ⟨xs, rfl, HS.out⟩

/-- What is answered is a slice of kinds. -/
theorem AllSt.isK {w wr : World} {ks xs : List Kd} (h : AllSt w wr ks xs ks.length) (ha : ∀ k ∈ ks, AllI k.l) (hr : ∀ k ∈ ks, k.l.length ≤ 16) : IsK wr (some ⟨w.heap.size, 0, none⟩) xs := by
  refine ⟨.inr ⟨w.heap.size, 0, rfl, h.row.lt, fun i hi => by rw [Nat.zero_add]; exact h.row.cells i hi⟩, fun k hk => ?_⟩
  obtain ⟨j, hj, rfl⟩ := List.getElem_of_mem hk
  have hlen := h.len
  obtain ⟨h1, h2, h3⟩ := h.done j (by omega) hj (by omega)
  have hm := List.getElem_mem (l := ks) (n := j) (by omega)
  have hl : xs[j].l.length ≤ 16 := by rw [h2]; exact hr _ hm
  exact ⟨ownsI_isI (by rw [h2]; exact ha _ hm) h3, h3.parts.2.2.1, by unfold maxLen; omega⟩

set_option maxRecDepth 20000 in
set_option maxHeartbeats 4000000 in
theorem rall_true (a b : Option Addr) (n n' ca cb : Nat) (xs ys : List Kd) (w : World) (hx : IsK w a xs) (hy : IsK w b ys) (hn : n = xs.length) (hn' : n' = xs.length) (hl : ys.length = xs.length) (hs : ∀ j (h : j < xs.length) (h' : j < ys.length), xs[j].s = ys[j].s ∧ xs[j].l = ys[j].l) (hm : xs.length ≤ 1000000) :
    Calls Try.prog 31 #[.slice a n ca, .slice b n' cb] w fun e w' => e = .returned (.bool true) ∧ Below w.heap.size w w' := by
  subst hn hn'
  have HX : Hid (IsK w a xs) := hx
  have HY : Hid (IsK w b ys) := hy
  have HL : Hid (ys.length = xs.length) := hl
  have HS : Hid (∀ j (h : j < xs.length) (h' : j < ys.length), xs[j].s = ys[j].s ∧ xs[j].l = ys[j].l) := hs
  clear hx hy hl hs
  go_enter Try.func31, Try.ntmps31
  go_wp2
  go_loopw [13] (fun iv wr => ∃ i : Nat, i ≤ xs.length ∧ iv = .int .i64 i ∧ Below w.heap.size w wr) (fun iv _ => xs.length - (intOf iv).toNat)
  case atStart => exact ⟨0, Nat.zero_le _, rfl, Below.refl _ _⟩
  case round =>
    obtain ⟨i, hi, rfl, hB⟩ := hrel
    have HB : Hid (Below w.heap.size w wr) := hB
    by_cases hlt : i < xs.length
    · have hlt' : i < ys.length := by rw [HL.out]; exact hlt
      have hX := HX.out.keep hB
      have hY := HY.out.keep hB
      obtain h0 | ⟨b1, o1, rfl, hs1, c1⟩ := hX.at'
      · rw [h0] at hlt; simp at hlt
      obtain h0 | ⟨b2, o2, rfl, hs2, c2⟩ := hY.at'
      · rw [h0] at hlt'; simp at hlt'
      obtain ⟨x0, x1⟩ := c1 i hlt
      obtain ⟨y0, y1⟩ := c2 i hlt'
      obtain ⟨IX, _, MX⟩ := hX.body xs[i] (List.getElem_mem hlt)
      obtain ⟨IY, _, _⟩ := hY.body ys[i] (List.getElem_mem hlt')
      obtain ⟨es, el⟩ := HS.out i hlt hlt'
      generalize xs[i] = x at *
      generalize ys[i] = y at *
      obtain ⟨s, ax, cx, l⟩ := x
      obtain ⟨s', ay, cy, l'⟩ := y
      dsimp only at x0 x1 y0 y1 IX MX IY es el
      subst es el
      have I1 : Hid (IsI wr ax l) := IX
      have I2 : Hid (IsI wr ay l) := IY
      have hii : (i : Int) < (xs.length : Int) := by omega
      clear hX hY c1 c2 hB IX IY hs1 hs2 hlt'
      go_wp2_with fail
      go_region_held3 (fun w' => w'.cell? ⟨b1, o1 + i * 2, none⟩ = some (.int .i64 s) ∧ w'.cell? ⟨b1, o1 + i * 2 + 1, none⟩ = some (.slice ax l.length cx) ∧ w'.cell? ⟨b2, o2 + i * 2, none⟩ = some (.int .i64 s) ∧ w'.cell? ⟨b2, o2 + i * 2 + 1, none⟩ = some (.slice ay l.length cy)) (first | assumption | exact ⟨by assumption, by assumption, by assumption, by assumption⟩ | go_keep)
        ((go_at_call 13; refine (ksame_true s ax ay _ _ cx cy l _ I1.out.drew I2.out.drew rfl rfl MX).mono ?_; rintro e w2 ⟨rfl, bS⟩; have BS : Hid (Below wr.heap.size wr w2) := Below.ofDrew bS; have p0 := bcellK BS.out x0; have p1 := bcellK BS.out x1; have p2 := bcellK BS.out y0; have p3 := bcellK BS.out y1; clear bS))
      go_wp2
      go_roundw
      case rel => exact ⟨i + 1, by omega, by go_num, HB.out.trans (BS.out.mono HB.out.size)⟩
      case measure => simp [intOf]; omega
    · obtain rfl : i = xs.length := by omega
      go_wp2
      go_ret
      exact ⟨rfl, HB.out⟩
end Go.Proofs.Ytkcnanpojnbepaa
