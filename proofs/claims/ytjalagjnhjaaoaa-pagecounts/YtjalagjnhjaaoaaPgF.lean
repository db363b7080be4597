/- Layer 18: kinds in memory (as in KfA, KfD). -/
import Derived.Test.YtjalagjnhjaaoaaPgD
import Derived.Test.YtjalagjnhjaaoaaKdH
import Derived.Test.YtjalagjnhjaaoaaKdM
import Derived.Maps.AppendAt
namespace Go.Proofs.Ytjalagjnhjaaoaa
open Go.RowKit
set_option linter.unusedVariables false
set_option maxRecDepth 4000

/-- A kind in memory. -/
structure Kd where
  s : Int
  a : Option Addr
  c : Nat
  l : List Int

/-- The cells of kinds. -/
def cellsK : List Kd → List Value
  | [] => []
  | k :: r => .int .i64 k.s :: .slice k.a k.l.length k.c :: cellsK r
theorem cellsK_append : ∀ (a b : List Kd), cellsK (a ++ b) = cellsK a ++ cellsK b
  | [], _ => rfl
  | k :: a, b => by simp [cellsK, cellsK_append a b]
theorem cellsK_len : ∀ (ks : List Kd), (cellsK ks).length = ks.length * 2
  | [] => rfl
  | k :: r => by simp [cellsK, cellsK_len r]; omega
theorem cellsK_at : ∀ (ks : List Kd) (i : Nat) (h : i < ks.length), (cellsK ks)[i * 2]? = some (.int .i64 ks[i].s) ∧ (cellsK ks)[i * 2 + 1]? = some (.slice ks[i].a ks[i].l.length ks[i].c)
  | k :: r, 0, _ => by simp [cellsK]
  | k :: r, i + 1, h => by
    have := cellsK_at r i (by simpa using h)
    rw [show (i + 1) * 2 = i * 2 + 2 from by omega, show i * 2 + 2 + 1 = i * 2 + 1 + 2 from by omega]
    simpa [cellsK] using this
theorem cellsK_set : ∀ (ks : List Kd) (i : Nat) (k : Kd), i < ks.length → ((cellsK ks).set (i * 2) (.int .i64 k.s)).set (i * 2 + 1) (.slice k.a k.l.length k.c) = cellsK (ks.set i k)
  | x :: r, 0, k, _ => by simp [cellsK]
  | x :: r, i + 1, k, h => by
    have := cellsK_set r i k (by simpa using h)
    rw [show (i + 1) * 2 = i * 2 + 2 from by omega, show i * 2 + 2 + 1 = i * 2 + 1 + 2 from by omega]
    simp only [cellsK, List.set_cons_succ, this]
theorem cellsK_one : ∀ (ks : List Kd), ∀ v ∈ cellsK ks, v.oneCell' = true
  | [], v, h => by cases h
  | k :: r, v, h => by
    simp only [cellsK, List.mem_cons] at h
    rcases h with rfl | rfl | h
    · rfl
    · rfl
    · exact cellsK_one r v h

theorem Try.infoK : (Try.prog.info? 54).map (fun i => (i.zero, i.size, i.bytes)) = some (some (.agg #[.int .i64 0, .slice none 0 0]), 2, 32) := by kernel_rfl

/-- A row of kinds of one's own. -/
def RowK (w : World) (base : Nat) (a : Option Addr) (ks : List Kd) (cap : Nat) : Prop := w.ownsRow base 54 2 (.slice a ks.length cap) ks.length (cellsK ks)

theorem owns_formK {w : World} {base n : Nat} {v : Value} {xs : List Value} (h : w.ownsRow base 54 2 v n xs) : ∃ a cap, v = .slice a n cap := by
  obtain ⟨_, ⟨rfl, rfl⟩ | ⟨g, c', cur, rfl, _⟩⟩ := h
  · exact ⟨_, _, rfl⟩
  · exact ⟨_, _, rfl⟩
theorem rowK_nil (w : World) (base : Nat) : RowK w base none [] 0 := World.ownsRow_nil _ _ _ _
theorem RowK.ge {w : World} {base cap : Nat} {a : Option Addr} {ks : List Kd} (h : RowK w base a ks cap) : ∀ g, ob a = some g → base ≤ g ∧ g < w.heap.size := fun g hg => World.ownsRow.lt h g (by rw [ob_own]; exact hg)
theorem RowK.keep {w w' : World} {base cap : Nat} {a : Option Addr} {ks : List Kd} (h : RowK w base a ks cap) (hb : Below w.heap.size w w') : RowK w' base a ks cap := by
  obtain ⟨h0, h1 | ⟨g, c', cur, h1, hg, h2, h3⟩⟩ := h
  · exact ⟨h0, .inl h1⟩
  · exact ⟨h0, .inr ⟨g, c', cur, h1, hg, by rw [hb.block g (Array.getElem?_eq_some_iff.1 h2).1]; exact h2, h3⟩⟩
/-- A row whose block stays. -/
theorem RowK.stay {w w' : World} {base cap : Nat} {a : Option Addr} {ks : List Kd} (h : RowK w base a ks cap) (hb : ∀ g, ob a = some g → w'.heap[g]? = w.heap[g]?) : RowK w' base a ks cap := by
  obtain ⟨h0, h1 | ⟨g, c', cur, h1, hg, h2, h3⟩⟩ := h
  · exact ⟨h0, .inl h1⟩
  · refine ⟨h0, .inr ⟨g, c', cur, h1, hg, ?_, h3⟩⟩
    cases h1
    rw [hb g rfl]; exact h2
theorem RowK.cells {w : World} {base cap : Nat} {a : Option Addr} {ks : List Kd} (h : RowK w base a ks cap) (i : Nat) (hi : i < ks.length) : ∃ g, a = some ⟨g, 0, none⟩ ∧ g < w.heap.size ∧ w.cell? ⟨g, i * 2, none⟩ = some (.int .i64 ks[i].s) ∧ w.cell? ⟨g, i * 2 + 1, none⟩ = some (.slice ks[i].a ks[i].l.length ks[i].c) := by
  have h' := h
  obtain ⟨_, ⟨h1, h2⟩ | ⟨g, c', cur, h1, hg, h2, _⟩⟩ := h
  · omega
  · cases h1
    obtain ⟨e0, e1⟩ := cellsK_at ks i hi
    refine ⟨g, rfl, (Array.getElem?_eq_some_iff.1 h2).1, ?_, ?_⟩
    · rw [World.ownsRow.cellAt h' (i * 2) (by omega)]; exact e0
    · rw [World.ownsRow.cellAt h' (i * 2 + 1) (by omega)]; exact e1
theorem RowK.kind {w : World} {base cap : Nat} {a : Option Addr} {ks : List Kd} (h : RowK w base a ks cap) : ∀ g, ob a = some g → ∃ cur, w.heap[g]? = some (.cells cur 54 (0, 0)) := by
  intro g hg
  obtain ⟨_, ⟨h1, _⟩ | ⟨g', c', cur, h1, _, h2, _⟩⟩ := h
  · simp only [Value.slice.injEq] at h1
    obtain ⟨rfl, _⟩ := h1
    cases hg
  · cases h1
    cases hg
    exact ⟨cur, h2⟩

/-- Two rows of different kinds lie in different blocks. -/
theorem rows_apart {w : World} {base base' n n' s s' : Nat} {e e' : TypeId} {v v' : Value} {xs xs' : List Value} (h : w.ownsRow base e s v n xs) (h' : w.ownsRow base' e' s' v' n' xs') (he : e ≠ e') : v.ownBlock = none ∨ v.ownBlock ≠ v'.ownBlock := by
  obtain ⟨_, ⟨rfl, _⟩ | ⟨g, c, cur, rfl, _, hg, _⟩⟩ := h
  · exact .inl rfl
  · refine .inr fun ee => ?_
    obtain ⟨_, ⟨rfl, _⟩ | ⟨g', c', cur', rfl, _, hg', _⟩⟩ := h'
    · simp [Value.ownBlock] at ee
    · simp [Value.ownBlock] at ee
      subst ee
      rw [hg] at hg'
      simp at hg'
      exact he hg'.2

/-- A box of another kind is no row. -/
theorem box_apart {w : World} {g base n s : Nat} {t e : TypeId} {cs : Array Value} {v : Value} {xs : List Value} (h : w.heap[g]? = some (.cells cs t (0, 0))) (h' : w.ownsRow base e s v n xs) (he : t ≠ e) : some g ≠ v.ownBlock := by
  intro ee
  obtain ⟨_, ⟨rfl, _⟩ | ⟨g', c', cur', rfl, _, hg', _⟩⟩ := h'
  · simp [Value.ownBlock] at ee
  · simp [Value.ownBlock] at ee
    subst ee
    rw [h] at hg'
    simp at hg'
    exact he hg'.2

/-- A kind is appended to a row of one's own, as a run. -/
theorem appK (w : World) (base : Nat) (hbase : base ≤ w.heap.size) (a : Option Addr) (ks : List Kd) (cap : Nat) (h : RowK w base a ks cap) (q c : Nat) (k : Kd) (h0 : w.cell? ⟨q, 0, none⟩ = some (.int .i64 k.s)) (h1 : w.cell? ⟨q, 1, none⟩ = some (.slice k.a k.l.length k.c)) (hlen : ks.length ≤ 1000000) :
    ∃ a' cap' w', (Builtin.append_ #[39, 39] 39 #[.slice a ks.length cap, .slice (some ⟨q, 0, none⟩) 1 c]).run Try.prog w = .ok (.slice a' (ks.length + 1) cap') w' ∧ RowK w' base a' (ks ++ [k]) cap' ∧ w.grownBy w' (ob a) ∧ (ob a' = ob a ∨ ob a' = some w.heap.size) := by
  obtain ⟨i0, hi, hz0, hz1, hz2⟩ := info_parts Try.infoK
  obtain ⟨v', w', hr, h2, h3, _, h4⟩ := run_append_own_at (P := Try.prog) w base 39 39 54 i0 (.agg #[.int .i64 0, .slice none 0 0]) 2 32 Try.underlying39 hi hz0 hz1 hz2 rfl (by decide)
    (.slice a ks.length cap) ks.length (cellsK ks) h ⟨q, 0, none⟩ 1 c [.int .i64 k.s, .slice k.a k.l.length k.c] rfl (by
      intro j u hj
      match j, hj with
      | 0, hj => simp at hj; subst hj; simpa [Addr.add] using h0
      | 1, hj => simp at hj; subst hj; simpa [Addr.add] using h1) (by
      intro u hu
      simp at hu
      rcases hu with rfl | rfl <;> rfl) (by unfold maxLen; omega) (by omega) hbase
  obtain ⟨a', cap', rfl⟩ := owns_formK h2
  have e : cellsK (ks ++ [k]) = cellsK ks ++ [.int .i64 k.s, .slice k.a k.l.length k.c] := by rw [cellsK_append]; rfl
  rw [ob_own] at h3 h4
  rw [ob_own] at h4
  exact ⟨a', cap', w', hr, by rw [RowK, e, List.length_append]; exact h2, h3, h4⟩

/-- A slice of kinds. -/
structure IsK (w : World) (a : Option Addr) (ks : List Kd) : Prop where
  at' : ks = [] ∨ ∃ b off, a = some ⟨b, off, none⟩ ∧ b < w.heap.size ∧ ∀ i (h : i < ks.length), w.cell? ⟨b, off + i * 2, none⟩ = some (.int .i64 ks[i].s) ∧ w.cell? ⟨b, off + i * 2 + 1, none⟩ = some (.slice ks[i].a ks[i].l.length ks[i].c)
  body : ∀ k ∈ ks, IsI w k.a k.l ∧ (k.a = none → k.l = [] ∧ k.c = 0) ∧ k.l.length ≤ maxLen
theorem IsK.keep {w w' : World} {a : Option Addr} {ks : List Kd} (h : IsK w a ks) (hb : Below w.heap.size w w') : IsK w' a ks where
  at' := by
    rcases h.at' with h0 | ⟨b, off, e, hs, hc⟩
    · exact .inl h0
    · refine .inr ⟨b, off, e, by have := hb.size; omega, fun i hi => ?_⟩
      rw [hb.cell (p := ⟨b, off + i * 2, none⟩) hs, hb.cell (p := ⟨b, off + i * 2 + 1, none⟩) hs]
      exact hc i hi
  body := fun k hk => ⟨(h.body k hk).1.keep hb, (h.body k hk).2⟩
theorem RowK.isK {w : World} {base cap : Nat} {a : Option Addr} {ks : List Kd} (h : RowK w base a ks cap) (hb : ∀ k ∈ ks, IsI w k.a k.l ∧ (k.a = none → k.l = [] ∧ k.c = 0) ∧ k.l.length ≤ maxLen) : IsK w a ks := by
  refine ⟨?_, hb⟩
  have h' := h
  obtain ⟨_, ⟨h1, h2⟩ | ⟨g, c', cur, h1, hg, h2, _⟩⟩ := h
  · exact .inl (List.eq_nil_of_length_eq_zero h2)
  · cases h1
    refine .inr ⟨g, 0, rfl, (Array.getElem?_eq_some_iff.1 h2).1, fun i hi => ?_⟩
    obtain ⟨e0, e1⟩ := cellsK_at ks i hi
    rw [Nat.zero_add, World.ownsRow.cellAt h' (i * 2) (by omega), World.ownsRow.cellAt h' (i * 2 + 1) (by omega)]
    exact ⟨e0, e1⟩

set_option maxRecDepth 20000 in
set_option maxHeartbeats 4000000 in
theorem rall_true (a b : Option Addr) (n n' ca cb : Nat) (xs ys : List Kd) (w : World) (hx : IsK w a xs) (hy : IsK w b ys) (hn : n = xs.length) (hn' : n' = xs.length) (hl : ys.length = xs.length) (hs : ∀ j (h : j < xs.length) (h' : j < ys.length), xs[j].s = ys[j].s ∧ xs[j].l = ys[j].l) (hm : xs.length ≤ 1000000) :
    Calls Try.prog 21 #[.slice a n ca, .slice b n' cb] w fun e w' => e = .returned (.bool true) ∧ Below w.heap.size w w' := by
  subst hn hn'
  have HX : Hid (IsK w a xs) := hx
  have HY : Hid (IsK w b ys) := hy
  have HL : Hid (ys.length = xs.length) := hl
  have HS : Hid (∀ j (h : j < xs.length) (h' : j < ys.length), xs[j].s = ys[j].s ∧ xs[j].l = ys[j].l) := hs
  clear hx hy hl hs
  go_enter Try.func21, Try.ntmps21
  go_wp2
  go_loopw [13] (fun iv wr => ∃ i : Nat, i ≤ xs.length ∧ iv = .int .i64 i ∧ Below w.heap.size w wr) (fun iv _ => xs.length - (intOf iv).toNat)
  case atStart => exact ⟨0, Nat.zero_le _, rfl, Below.refl _ _⟩
  case round =>
    obtain ⟨i, hi, rfl, hB⟩ := hrel
    have HB : Hid (Below w.heap.size w wr) := hB
    by_cases hlt : i < xs.length
    · have hlt' : i < ys.length := by rw [HL.out]; exact hlt
      have hX := HX.out.keep hB
      have hY := HY.out.keep hB
      obtain h0 | ⟨b1, o1, rfl, hs1, c1⟩ := hX.at'
      · rw [h0] at hlt; simp at hlt
      obtain h0 | ⟨b2, o2, rfl, hs2, c2⟩ := hY.at'
      · rw [h0] at hlt'; simp at hlt'
      obtain ⟨x0, x1⟩ := c1 i hlt
      obtain ⟨y0, y1⟩ := c2 i hlt'
      obtain ⟨IX, _, MX⟩ := hX.body xs[i] (List.getElem_mem hlt)
      obtain ⟨IY, _, _⟩ := hY.body ys[i] (List.getElem_mem hlt')
      obtain ⟨es, el⟩ := HS.out i hlt hlt'
      generalize xs[i] = x at *
      generalize ys[i] = y at *
      obtain ⟨s, ax, cx, l⟩ := x
      obtain ⟨s', ay, cy, l'⟩ := y
      dsimp only at x0 x1 y0 y1 IX MX IY es el
      subst es el
      have I1 : Hid (IsI wr ax l) := IX
      have I2 : Hid (IsI wr ay l) := IY
      have hii : (i : Int) < (xs.length : Int) := by omega
      clear hX hY c1 c2 hB IX IY hs1 hs2 hlt'
      go_wp2_with fail
      go_region_held3 (fun w' => w'.cell? ⟨b1, o1 + i * 2, none⟩ = some (.int .i64 s) ∧ w'.cell? ⟨b1, o1 + i * 2 + 1, none⟩ = some (.slice ax l.length cx) ∧ w'.cell? ⟨b2, o2 + i * 2, none⟩ = some (.int .i64 s) ∧ w'.cell? ⟨b2, o2 + i * 2 + 1, none⟩ = some (.slice ay l.length cy)) (first | assumption | exact ⟨by assumption, by assumption, by assumption, by assumption⟩ | go_keep)
        ((go_at_call 44; refine (ksame_true s ax ay _ _ cx cy l _ I1.out.drew I2.out.drew rfl rfl MX).mono ?_; rintro e w2 ⟨rfl, bS⟩; have BS : Hid (Below wr.heap.size wr w2) := Below.ofDrew bS; have p0 := bcellK BS.out x0; have p1 := bcellK BS.out x1; have p2 := bcellK BS.out y0; have p3 := bcellK BS.out y1; clear bS))
      go_wp2
      go_roundw
      case rel => exact ⟨i + 1, by omega, by go_num, HB.out.trans (BS.out.mono HB.out.size)⟩
      case measure => simp [intOf]; omega
    · obtain rfl : i = xs.length := by omega
      go_wp2
      go_ret
      exact ⟨rfl, HB.out⟩
end Go.Proofs.Ytjalagjnhjaaoaa
