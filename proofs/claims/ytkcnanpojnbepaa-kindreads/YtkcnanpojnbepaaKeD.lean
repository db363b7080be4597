/- The walk of KindReads. -/
import Derived.Test.YtkcnanpojnbepaaKeC
import Derived.Test.YtkcnanpojnbepaaKdQ
namespace Go.Proofs.Ytkcnanpojnbepaa
open Go.RowKit
set_option linter.unusedVariables false

theorem RfAt.tgLo {w w' : World} {lo M g : Nat} {l : List Int} {e : Int} (h : RfAt w lo M l e) (t : Tg g w w') (hg : g ≤ lo) (hM : g ≠ M) : RfAt w' lo M l e := by
  obtain ⟨a, cap, hh, h1, h2, h3, h4⟩ := h
  have hlt := lt_of_block hh
  refine ⟨a, cap, (t.block M hlt (Ne.symm hM)).trans hh, h1, h2, h3, ?_⟩
  rcases h4 with h4 | ⟨b, off, e1, e0, e2, e3⟩
  · exact .inl h4
  · exact .inr ⟨b, off, e1, e0, e2, fun i hi => t.cell (e3 i hi) (by omega)⟩
theorem IsI.tg {g : Nat} {w w' : World} {a : Option Addr} {l : List Int} (k : IsI w a l) (h : Tg g w w') (hn : ∀ ad, a = some ad → ad.block ≠ g) : IsI w' a l := by
  obtain ⟨h1, h2 | ⟨b, off, e, hs, hc⟩⟩ := k
  · exact ⟨h1, .inl h2⟩
  · refine ⟨h1, .inr ⟨b, off, e, Nat.lt_of_lt_of_le hs h.size, fun i hi => ?_⟩⟩
    rw [World.cell?_of_block (h.block b hs (hn _ e))]; exact hc i hi

/-- The document's reader, new: its bytes in a block of their own. -/
theorem newrf {w D : World} {B g cap base : Nat} {l : List Int} (h : w.alloc (.cells #[.slice (some ⟨g, 0, none⟩) l.length cap, .int .i64 0] 47) = D) (o : OwnsB w base (some ⟨g, 0, none⟩) l cap) (hb : AllB l) (hB : B < base) : RfAt D B w.heap.size l 0 ∧ Below w.heap.size w D := by
  have bel : Below w.heap.size w D := by rw [← h]; exact (Below.refl _ w).alloc (Nat.le_refl _) _
  refine ⟨⟨some ⟨g, 0, none⟩, cap, by rw [← h]; exact Go.heap_alloc_new w _, (ownsB_isL o).1, (ownsB_isL o).2.1, hb, ?_⟩, bel⟩
  have o' := o
  obtain ⟨_, ⟨h1, _⟩ | ⟨g', c', cur, h1, hg, h2, _⟩⟩ := o'
  · cases h1
  · cases h1
    by_cases hl : l = []
    · exact .inl hl
    · refine .inr ⟨g, 0, rfl, by omega, (Array.getElem?_eq_some_iff.1 h2).1, fun i hi => ?_⟩
      rw [bel.cell (p := ⟨g, 0 + i, none⟩) (Array.getElem?_eq_some_iff.1 h2).1]
      exact (ownsB_isB hb o).at i hi

theorem IsB.take {w : World} {a : Option Addr} {l : List Int} (h : IsB w a l) (n : Nat) : IsB w a (l.take n) := by
  obtain ⟨h1, h2 | ⟨b, off, e, hs, hc⟩⟩ := h
  · subst h2; exact ⟨fun x hx => by simp at hx, .inl (by simp)⟩
  · refine ⟨fun x hx => h1 x (List.mem_of_mem_take hx), .inr ⟨b, off, e, hs, fun i hi => ?_⟩⟩
    rw [List.length_take] at hi
    rw [hc i (by omega)]
    simp [List.getD, show i < n by omega]
/-- Two kinds in new boxes. -/
theorem newboxes {w E : World} {s s' : Int} {a a' : Option Addr} {n n' c c' : Nat} (h : (w.alloc (.cells #[.int .i64 s, .slice a n c] 24)).alloc (.cells #[.int .i64 s', .slice a' n' c'] 24) = E) :
    E.cell? ⟨w.heap.size, 0, none⟩ = some (.int .i64 s) ∧ E.cell? ⟨w.heap.size, 1, none⟩ = some (.slice a n c) ∧ E.cell? ⟨w.heap.size + 1, 0, none⟩ = some (.int .i64 s') ∧ E.cell? ⟨w.heap.size + 1, 1, none⟩ = some (.slice a' n' c') ∧ Below w.heap.size w E := by
  obtain ⟨D, hD⟩ : ∃ D, w.alloc (.cells #[.int .i64 s, .slice a n c] 24) = D := ⟨_, rfl⟩
  rw [hD] at h
  obtain ⟨i0, i1, b1⟩ := newbox hD
  obtain ⟨j0, j1, b2⟩ := newbox h
  have hs : D.heap.size = w.heap.size + 1 := by rw [← hD]; simp
  rw [hs] at j0 j1
  exact ⟨bcellK b2 i0, bcellK b2 i1, j0, j1, b1.trans (b2.mono b1.size)⟩

set_option maxRecDepth 20000 in
set_option maxHeartbeats 4000000 in
theorem kindReads_any (a : Option Addr) (cap : Nat) (l : List Int) (w : World) (hB : IsB w a l) (hnil : a = none → l = [] ∧ cap = 0) (hc : l.length ≤ cap) (hcm : cap ≤ maxLen) (hlen : l.length ≤ 140737488355328) :
    Calls Try.prog 6 #[.slice a l.length cap] w fun e w' => e = .returned (.bool true) ∧ Below w.heap.size w w' := by
  have HB : Hid (IsB w a l) := hB
  have HN : Hid (a = none → l = []) := fun h => (hnil h).1
  obtain ⟨s, ps, rest, er, hk⟩ : ∃ s ps rest er, readK l = (s, ps, rest, er) := ⟨_, _, _, _, rfl⟩
  have HK : Hid (readK l = (s, ps, rest, er)) := hk
  have HG : Hid ((er = 0 ∧ checkK s ps = 0 ∧ l = bytesK s ps ++ rest) ∨ ((er = 3 ∨ er = 4) ∧ s = 0 ∧ ps = [] ∧ rest = [])) := read_good hB.1 hk
  have HPL : Hid (ps.length ≤ maxLen) := by
    show ps.length ≤ maxLen
    rcases HG.out with ⟨_, h, _⟩ | ⟨_, _, h, _⟩
    · have := (check_zero.1 h).2.2.1; unfold maxLen; omega
    · rw [h]; exact Nat.zero_le _
  unfold maxLen at hcm
  clear hB hk hnil
  go_enter Try.func6, Try.ntmps6
  go_wp2_with fail
  refine (alive_any _).mono ?_
  rintro e w1 ⟨rfl, b1⟩
  have B1 : Hid (Below w.heap.size w w1) := b1
  clear b1
  go_wp2_with fail
  refine (open_any a cap l _ (HB.out.keep B1.out) hlen HN.out).mono ?_
  rintro e w2 ⟨B, rfl, hB1, hB2, r2, b2⟩
  have R2 : Hid (RdAt w2 B l 0) := r2
  have B2 : Hid (Below w.heap.size w w2) := B1.out.trans (b2.mono B1.out.size)
  have z1 := B1.out.size
  clear r2 b2
  go_wp2_with fail
  refine (copy_any a cap _ l _ rfl (HB.out.keep B2.out) hlen).mono ?_
  rintro e w3 ⟨g, c3, rfl, o3, b3⟩
  obtain ⟨D, hD⟩ : ∃ D, w3.alloc (.cells #[.slice (some ⟨g, 0, none⟩) l.length c3, .int .i64 0] 47) = D := ⟨_, rfl⟩
  obtain ⟨rf4, b4⟩ := newrf hD o3 HB.out.1 hB2
  have RF4 : Hid (RfAt D B w3.heap.size l 0) := rf4
  have RD4 : Hid (RdAt D B l 0) := rd_keep (rd_keep R2.out b3) b4
  have B4 : Hid (Below w.heap.size w D) := (B2.out.trans (b3.mono B2.out.size)).trans (b4.mono (Nat.le_trans B2.out.size b3.size))
  have hBM : B < w3.heap.size := Nat.lt_of_lt_of_le hB2 b3.size
  have hMD : w3.heap.size < D.heap.size := by rw [← hD]; simp
  obtain ⟨M, hM⟩ : ∃ M, w3.heap.size = M := ⟨_, rfl⟩
  rw [hM] at RF4 hBM hMD
  clear rf4 b3 b4 o3
  go_wp2_with fail
  refine (read_any B l s ps rest er _ RD4.out HK.out).mono ?_
  rintro e w5 ⟨a5, c5, l5, rfl, i5, n5, r5, e5, t5, f5⟩
  have RF5 : Hid (RfAt w5 B M l 0) := RF4.out.tgLo t5 (Nat.le_refl _) (by omega)
  have RD5 : Hid (RdAt w5 B l5 er) := r5
  have I5 : Hid (IsI w5 a5 ps) := i5
  have F5 : Hid (∀ ad, a5 = some ad → ad.block ≠ M) := fun ad h => by have := f5 ad h; omega
  have L5 : Hid (er = 0 → l5 = rest) := e5
  have B5 : Hid (Below w.heap.size w w5) := B4.out.trans (t5.below (by omega) B4.out.size)
  clear i5 n5 r5 e5 t5 f5 hM hD
  go_wp2_with fail
  refine (rread_any B M l s ps rest er _ RF5.out HK.out).mono ?_
  rintro e w6 ⟨a6, c6, l6, rfl, i6, n6, r6, e6, t6⟩
  have RD6 : Hid (RdAt w6 B l5 er) := RD5.out.tg t6 hBM
  have RF6 : Hid (RfAt w6 B M l6 er) := r6
  have I6 : Hid (IsI w6 a6 ps) := i6
  have J6 : Hid (IsI w6 a5 ps) := I5.out.tg t6 F5.out
  have L6 : Hid (er = 0 → l6 = rest) := e6
  have B6 : Hid (Below w.heap.size w w6) := B5.out.trans (t6.below (by omega) B5.out.size)
  clear i6 n6 r6 e6 t6
  go_upto_region 5 with (fail)
  obtain ⟨E, hE⟩ : ∃ E, (w6.alloc (.cells #[.int .i64 s, .slice a5 ps.length c5] 24)).alloc (.cells #[.int .i64 s, .slice a6 ps.length c6] 24) = E := ⟨_, rfl⟩
  obtain ⟨i0, i1, j0, j1, b7⟩ := newboxes hE
  have RD7 : Hid (RdAt E B l5 er) := rd_keep RD6.out b7
  have RF7 : Hid (RfAt E B M l6 er) := rf_keep RF6.out b7
  have I7 : Hid (IsI E a5 ps) := J6.out.keep b7
  have J7 : Hid (IsI E a6 ps) := I6.out.keep b7
  have B7 : Hid (Below w.heap.size w E) := B6.out.trans (b7.mono B6.out.size)
  have m7 := RF7.out.err
  obtain ⟨X, hX⟩ : ∃ X, leftV l5 er = X := ⟨_, rfl⟩
  have HX5 : Hid (leftV l5 er = X) := hX
  have HX6 : Hid (leftV l6 er = X) := by
    show _ = _
    rw [← hX]
    unfold leftV
    by_cases h0 : er = 0
    · rw [if_pos h0, if_pos h0, L5.out h0, L6.out h0]
    · rw [if_neg h0, if_neg h0]
  have x0 : (er != er) = false := by simp
  have x1 : (X != X) = false := by simp
  have HXR : Hid (er = 0 → X = (rest.length : Nat)) := fun h0 => by rw [← hX, leftV, if_pos h0, L5.out h0]
  rw [hE]
  clear hE hX b7 RD4 RF4 RD5 RF5 RD6 RF6 I5 I6 J6
  go_region_held3 (fun w' => w'.cell? ⟨w6.heap.size, 0, none⟩ = some (.int .i64 s) ∧ w'.cell? ⟨w6.heap.size, 1, none⟩ = some (.slice a5 ps.length c5) ∧ w'.cell? ⟨w6.heap.size + 1, 0, none⟩ = some (.int .i64 s) ∧ w'.cell? ⟨w6.heap.size + 1, 1, none⟩ = some (.slice a6 ps.length c6) ∧ w'.cell? ⟨M, 1, none⟩ = some (.int .i64 er)) (first | assumption | exact ⟨by assumption, by assumption, by assumption, by assumption, by assumption⟩ | go_keep)
    (first
      | (go_at_call 13; refine (ksame_true s a5 a6 _ _ c5 c6 ps _ I7.out.drew J7.out.drew rfl rfl HPL.out).mono ?_; rintro e wS ⟨rfl, bS⟩; have BS : Hid (Below E.heap.size E wS) := Below.ofDrew bS; have p0 := bcellK BS.out i0; have p1 := bcellK BS.out i1; have p2 := bcellK BS.out j0; have p3 := bcellK BS.out j1; have p4 := bcellK BS.out m7; clear bS)
      | (go_at_call 23; refine (err_any B l5 er _ (rd_keep RD7.out BS.out)).mono ?_; rintro e wE ⟨rfl, rfl⟩)
      | (go_at_call 24; refine (left_any B l5 er _ (rd_keep RD7.out BS.out)).mono ?_; rw [HX5.out]; rintro e wE ⟨rfl, rfl⟩)
      | (go_at_call 26; refine (rrest_any B M l6 er _ (rf_keep RF7.out BS.out)).mono ?_; rw [HX6.out]; rintro e wE ⟨rfl, rfl⟩))
  have B8 : Hid (Below w.heap.size w wS) := B7.out.trans (BS.out.mono B7.out.size)
  have I8 : Hid (IsI wS a5 ps) := I7.out.keep BS.out
  have RD8 : Hid (RdAt wS B l5 er) := rd_keep RD7.out BS.out
  clear i0 i1 j0 j1 m7
  rcases HG.out with ⟨rfl, hck, hl⟩ | ⟨he, _⟩
  · have hXR := HXR.out rfl
    obtain ⟨Y, hY⟩ : ∃ Y, bytesK s ps = Y := ⟨_, rfl⟩
    have hYp : 1 ≤ Y.length := by
      rw [← hY, bytesK, if_pos hck, bodyK, List.length_append, List.length_append]
      have := varL_pos s
      omega
    rw [hY] at hl
    have hll : l.length = Y.length + rest.length := by rw [hl, List.length_append]
    have HT : Hid (l.take Y.length = Y) := by show _ = _; rw [hl, List.take_left]
    have HY : Hid (bytesK s ps = Y) := hY
    have HCK : Hid (checkK s ps = 0) := hck
    have AY : Hid (AllB Y) := by show AllB Y; rw [← hY]; exact bytes_byte s ps
    obtain ⟨_, h0 | ⟨b, off, rfl, _⟩⟩ := HB.out
    · rw [h0] at hll; simp at hll; omega
    subst hXR
    clear hY hck hl
    obtain ⟨N, hN⟩ : ∃ N, Y.length = N := ⟨_, rfl⟩
    have HNY : Hid (Y.length = N) := hN
    rw [hN] at hll hYp HT
    have ek : ((l.length : Int) - (rest.length : Int)) = (N : Int) := by omega
    have g2 : N ≤ cap := by omega
    have g3 : (N : Int) ≤ (cap : Int) := by omega
    have g4 : (0 : Int) ≤ (N : Int) := by omega
    have g5 : IntKind.i64.wrap (N : Int) = (N : Int) := by rw [IntKind.wrap_i64]; omega
    clear hN hll
    go_wp2_with fail
    refine (check_is s a5 c5 _ ps 0 _ rfl HCK.out I8.out HPL.out).mono ?_
    rintro e w9 ⟨rfl, b9⟩
    have B9 : Hid (Below w.heap.size w w9) := B8.out.trans (b9.mono B8.out.size)
    have I9 : Hid (IsI w9 a5 ps) := I8.out.keep b9
    have RD9 : Hid (RdAt w9 B l5 0) := rd_keep RD8.out b9
    have u0 := bcellK b9 p0
    have u1 := bcellK b9 p1
    clear b9
    go_wp2_with fail
    refine (kbytes_any s a5 c5 ps _ I9.out HPL.out).mono ?_
    rw [HY.out, HNY.out]
    rintro e w10 ⟨a10, c10, rfl, o10, b10⟩
    have B10 : Hid (Below w.heap.size w w10) := B9.out.trans (b10.mono B9.out.size)
    have I10 : Hid (IsB w10 a10 Y) := ownsB_isB AY.out o10
    have RD10 : Hid (RdAt w10 B l5 0) := rd_keep RD9.out b10
    have T10 : Hid (IsB w10 (some ⟨b, off, none⟩) Y) := by
      have := (HB.out.keep B10.out).take N
      rwa [HT.out] at this
    clear o10 b10
    go_wp2_with fail
    refine (left_any B l5 0 _ RD10.out).mono ?_
    rw [HX5.out]
    rintro e w10' ⟨rfl, rfl⟩
    go_wp2_with fail
    refine (same_true a10 (some ⟨b, off, none⟩) _ _ c10 cap Y _ I10.out T10.out HNY.out.symm HNY.out.symm).mono ?_
    rintro e w10' ⟨rfl, rfl⟩
    go_wp2
    go_ret
    exact ⟨rfl, B10.out⟩
  · have hq : (er != 0) = true := by rw [bne_iff_ne]; omega
    clear he
    go_wp2
    go_ret
    exact ⟨rfl, B8.out⟩
end Go.Proofs.Ytkcnanpojnbepaa
