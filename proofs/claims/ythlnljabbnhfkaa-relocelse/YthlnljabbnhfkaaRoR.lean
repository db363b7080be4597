/- The walk of RelocReads. -/
import Derived.Test.YthlnljabbnhfkaaRoJ
import Derived.Test.YthlnljabbnhfkaaRoF
namespace Go.Proofs.Ythlnljabbnhfkaa
open Go.RowKit
set_option linter.unusedVariables false

theorem RdAt.tg {w w' : World} {B g : Nat} {l : List Int} {e : Int} (h : RdAt w B l e) (t : Tg g w w') (hg : B < g) : RdAt w' B l e := by
  obtain ⟨a, cap, hh, h1, h2, h3, h4⟩ := h
  have hlt := lt_of_block hh
  refine ⟨a, cap, (t.block B hlt (by omega)).trans hh, h1, h2, h3, ?_⟩
  rcases h4 with h4 | ⟨b, off, e1, e2, e3⟩
  · exact .inl h4
  · exact .inr ⟨b, off, e1, e2, fun i hi => t.cell (e3 i hi) (by omega)⟩
theorem RfAt.tgLo {w w' : World} {lo M g : Nat} {l : List Int} {e : Int} (h : RfAt w lo M l e) (t : Tg g w w') (hg : g ≤ lo) (hM : g ≠ M) : RfAt w' lo M l e := by
  obtain ⟨a, cap, hh, h1, h2, h3, h4⟩ := h
  have hlt := lt_of_block hh
  refine ⟨a, cap, (t.block M hlt (Ne.symm hM)).trans hh, h1, h2, h3, ?_⟩
  rcases h4 with h4 | ⟨b, off, e1, e0, e2, e3⟩
  · exact .inl h4
  · exact .inr ⟨b, off, e1, e0, e2, fun i hi => t.cell (e3 i hi) (by omega)⟩
theorem IsI.tg {g : Nat} {w w' : World} {a : Option Addr} {l : List Int} (k : IsI w a l) (h : Tg g w w') (hn : ∀ ad, a = some ad → ad.block ≠ g) : IsI w' a l := by
  obtain ⟨h1, h2 | ⟨b, off, e, hs, hc⟩⟩ := k
  · exact ⟨h1, .inl h2⟩
  · refine ⟨h1, .inr ⟨b, off, e, Nat.lt_of_lt_of_le hs h.size, fun i hi => ?_⟩⟩
    rw [World.cell?_of_block (h.block b hs (hn _ e))]; exact hc i hi

/-- The document's reader, new: its bytes in a block of their own. -/
theorem newrf {w D : World} {B g cap base : Nat} {l : List Int} (h : w.alloc (.cells #[.slice (some ⟨g, 0, none⟩) l.length cap, .int .i64 0] 42) = D) (o : OwnsB w base (some ⟨g, 0, none⟩) l cap) (hb : AllB l) (hB : B < base) : RfAt D B w.heap.size l 0 ∧ Below w.heap.size w D := by
  have bel : Below w.heap.size w D := by rw [← h]; exact (Below.refl _ w).alloc (Nat.le_refl _) _
  refine ⟨⟨some ⟨g, 0, none⟩, cap, by rw [← h]; exact Go.heap_alloc_new w _, (ownsB_isL o).1, (ownsB_isL o).2.1, hb, ?_⟩, bel⟩
  have o' := o
  obtain ⟨_, ⟨h1, _⟩ | ⟨g', c', cur, h1, hg, h2, _⟩⟩ := o'
  · cases h1
  · cases h1
    by_cases hl : l = []
    · exact .inl hl
    · refine .inr ⟨g, 0, rfl, by omega, (Array.getElem?_eq_some_iff.1 h2).1, fun i hi => ?_⟩
      rw [bel.cell (p := ⟨g, 0 + i, none⟩) (Array.getElem?_eq_some_iff.1 h2).1]
      exact (ownsB_isB hb o).at i hi

theorem IsB.take {w : World} {a : Option Addr} {l : List Int} (h : IsB w a l) (n : Nat) : IsB w a (l.take n) := by
  obtain ⟨h1, h2 | ⟨b, off, e, hs, hc⟩⟩ := h
  · subst h2; exact ⟨fun x hx => by simp at hx, .inl (by simp)⟩
  · refine ⟨fun x hx => h1 x (List.mem_of_mem_take hx), .inr ⟨b, off, e, hs, fun i hi => ?_⟩⟩
    rw [List.length_take] at hi
    rw [hc i (by omega)]
    simp [List.getD, show i < n by omega]

theorem ints_self (a a' : Option Addr) (n n' cap cap' : Nat) (l : List Int) (w : World) (h : IsI w a l) (h' : IsI w a' l) (hn : n = l.length) (hn' : n' = l.length) (hm : l.length ≤ maxLen) :
    Calls Try.prog 15 #[.slice a n cap, .slice a' n' cap'] w fun e w' => e = .returned (.bool true) ∧ Below w.heap.size w w' := by
  refine (ints_any a a' n n' cap cap' l l w h h' hn hn' hm hm).mono ?_
  rintro e w' ⟨rfl, b⟩
  exact ⟨by simp, b⟩

set_option maxRecDepth 20000 in
set_option maxHeartbeats 4000000 in
theorem relocReads_any (a : Option Addr) (cap : Nat) (l : List Int) (w : World) (hB : IsB w a l) (hnil : a = none → l = [] ∧ cap = 0) (hlen : l.length ≤ 140737488355328) :
    Calls Try.prog 4 #[.slice a l.length cap] w fun e w' => e = .returned (.bool true) ∧ Below w.heap.size w w' := by
  have HB : Hid (IsB w a l) := hB
  have HN : Hid (a = none → l = []) := fun h => (hnil h).1
  obtain ⟨ps, rest, er, hk⟩ : ∃ ps rest er, readT l = (ps, rest, er) := ⟨_, _, _, rfl⟩
  have HK : Hid (readT l = (ps, rest, er)) := hk
  have HPL : Hid (ps.length ≤ maxLen) := by
    show ps.length ≤ maxLen
    rcases readT_good hB.1 hk with ⟨_, h, _⟩ | ⟨_, h, _⟩
    · have := (right_max.1 h).1; unfold maxLen; omega
    · rw [h]; exact Nat.zero_le _
  clear hB hk hnil
  go_enter Try.func4, Try.ntmps4
  go_wp2_with fail
  refine (alive_any _).mono ?_
  rintro e w1 ⟨rfl, b1⟩
  have B1 : Hid (Below w.heap.size w w1) := b1
  clear b1
  go_wp2_with fail
  refine (open_any a cap l _ (HB.out.keep B1.out) hlen HN.out).mono ?_
  rintro e w2 ⟨B, rfl, hB1, hB2, r2, b2⟩
  have R2 : Hid (RdAt w2 B l 0) := r2
  have B2 : Hid (Below w.heap.size w w2) := B1.out.trans (b2.mono B1.out.size)
  have z1 := B1.out.size
  clear r2 b2
  go_wp2_with fail
  refine (copy_any a cap _ l _ rfl (HB.out.keep B2.out) hlen).mono ?_
  rintro e w3 ⟨g, c3, rfl, o3, b3⟩
  obtain ⟨D, hD⟩ : ∃ D, w3.alloc (.cells #[.slice (some ⟨g, 0, none⟩) l.length c3, .int .i64 0] 42) = D := ⟨_, rfl⟩
  obtain ⟨rf4, b4⟩ := newrf hD o3 HB.out.1 hB2
  have RF4 : Hid (RfAt D B w3.heap.size l 0) := rf4
  have RD4 : Hid (RdAt D B l 0) := rd_keep (rd_keep R2.out b3) b4
  have B4 : Hid (Below w.heap.size w D) := (B2.out.trans (b3.mono B2.out.size)).trans (b4.mono (Nat.le_trans B2.out.size b3.size))
  have hBM : B < w3.heap.size := Nat.lt_of_lt_of_le hB2 b3.size
  have hMD : w3.heap.size < D.heap.size := by rw [← hD]; simp
  obtain ⟨M, hM⟩ : ∃ M, w3.heap.size = M := ⟨_, rfl⟩
  rw [hM] at RF4 hBM hMD
  clear rf4 b3 b4 o3
  go_wp2_with fail
  refine (oread_any B l ps rest er _ RD4.out HK.out).mono ?_
  rintro e w5 ⟨a5, c5, l5, rfl, i5, n5, r5, e5, t5, f5, _⟩
  have RF5 : Hid (RfAt w5 B M l 0) := RF4.out.tgLo t5 (Nat.le_refl _) (by omega)
  have RD5 : Hid (RdAt w5 B l5 er) := r5
  have I5 : Hid (IsI w5 a5 ps) := i5
  have F5 : Hid (∀ ad, a5 = some ad → ad.block ≠ M) := fun ad h => by have := f5 ad h; omega
  have L5 : Hid (er = 0 → l5 = rest) := e5
  have B5 : Hid (Below w.heap.size w w5) := B4.out.trans (t5.below (by omega) B4.out.size)
  clear i5 n5 r5 e5 t5 f5 hM hD
  go_wp2_with fail
  refine (roread_any B M l ps rest er _ RF5.out HK.out).mono ?_
  rintro e w6 ⟨a6, c6, l6, rfl, i6, n6, r6, e6, t6⟩
  have RD6 : Hid (RdAt w6 B l5 er) := RD5.out.tg t6 hBM
  have RF6 : Hid (RfAt w6 B M l6 er) := r6
  have I6 : Hid (IsI w6 a6 ps) := i6
  have J6 : Hid (IsI w6 a5 ps) := I5.out.tg t6 F5.out
  have L6 : Hid (er = 0 → l6 = rest) := e6
  have B6 : Hid (Below w.heap.size w w6) := B5.out.trans (t6.below (by omega) B5.out.size)
  have m7 := r6.err
  clear i6 n6 r6 e6 t6
  obtain ⟨X, hX⟩ : ∃ X, leftV l5 er = X := ⟨_, rfl⟩
  have HX5 : Hid (leftV l5 er = X) := hX
  have HX6 : Hid (leftV l6 er = X) := by
    show _ = _
    rw [← hX]
    unfold leftV
    by_cases h0 : er = 0
    · rw [if_pos h0, if_pos h0, L5.out h0, L6.out h0]
    · rw [if_neg h0, if_neg h0]
  have x0 : (er == er) = true := by simp
  have x1 : (X == X) = true := by simp
  clear hX RD4 RF4 RD5 RF5 I5
  go_upto_region 5 with (fail)
  go_region_held3 (fun w' => w'.cell? ⟨M, 1, none⟩ = some (.int .i64 er)) (first | assumption | go_keep)
    (first
      | (go_at_call 15; refine (ints_self a5 a6 _ _ c5 c6 ps _ J6.out.drew I6.out.drew rfl rfl HPL.out).mono ?_; rintro e wS ⟨rfl, bS⟩; have BS : Hid (Below w6.heap.size w6 wS) := Below.ofDrew bS; have p4 := bcellK BS.out m7; clear bS)
      | (go_at_call 19; refine (err_any B l5 er _ (rd_keep RD6.out BS.out)).mono ?_; rintro e wE ⟨rfl, rfl⟩)
      | (go_at_call 20; refine (left_any B l5 er _ (rd_keep RD6.out BS.out)).mono ?_; rw [HX5.out]; rintro e wE ⟨rfl, rfl⟩)
      | (go_at_call 22; refine (rrest_any B M l6 er _ (rf_keep RF6.out BS.out)).mono ?_; rw [HX6.out]; rintro e wE ⟨rfl, rfl⟩))
  all_goals
    go_wp2
    go_ret
    exact ⟨rfl, B6.out.trans (BS.out.mono B6.out.size)⟩
end Go.Proofs.Ythlnljabbnhfkaa
