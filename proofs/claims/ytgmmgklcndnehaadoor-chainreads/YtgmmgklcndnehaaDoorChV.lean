/- Layer 19: the walk of the document's Read. -/
import Derived.Test.YtgmmgklcndnehaaDoorGzAF
namespace Go.Proofs.YtgmmgklcndnehaaDoor
open Go.RowKit Go.Maps
set_option linter.unusedVariables false
set_option maxRecDepth 4000

theorem belowSelfN (w : World) (m : Nat) : Below w.heap.size w (w.drewN m) := ⟨rfl, rfl, rfl, Nat.le_refl _, fun _ _ => rfl⟩
/-- What was read so far: bytes and sectors. -/
structure DrS (w wr : World) (N : Nat) (ab : Option Addr) (cb : Nat) (bs : List Int) (as0 : Option Addr) (cs : Nat) (ss : List Int) : Prop where
  ob : OwnsB wr N ab bs cb
  oi : OwnsI wr N as0 ss cs
  bl : Below N w wr
  le : N ≤ wr.heap.size
section
variable {w wr : World} {N : Nat} {ab : Option Addr} {cb : Nat} {bs : List Int} {as0 : Option Addr} {cs : Nat} {ss : List Int}
theorem DrS.keep {w' : World} (h : DrS w wr N ab cb bs as0 cs ss) (b : Below wr.heap.size wr w') : DrS w w' N ab cb bs as0 cs ss :=
  ⟨h.ob.keep b, h.oi.keep b, h.bl.trans (b.mono h.le), Nat.le_trans h.le b.size⟩
theorem DrS.addB (h : DrS w wr N ab cb bs as0 cs ss) (ad : Addr) (l : List Int) (n cx : Nat) (hn : l.length = n) (hB : IsB wr (some ad) l) (hL : bs.length + l.length ≤ 140737488355328) :
    ∃ a' c' w', (Builtin.append_ #[22, 22] 22 #[.slice ab bs.length cb, .slice (some ad) n cx]).run Tryd.prog wr = .ok (.slice a' (bs ++ l).length c') w' ∧ DrS w w' N a' c' (bs ++ l) as0 cs ss := by
  subst hn
  obtain ⟨a', c', w', h1, h2, g⟩ := appB_g wr N h.le ab bs cb h.ob ad l cx hB hL
  have hk := ownB_blk h.ob
  exact ⟨a', c', w', h1, h2, World.ownsRow.kept h.oi g (own_apart h.oi h.ob).1, grown_belowD h.bl g (fun k e => (hk k e).1) h.le, Nat.le_trans h.le g.size⟩
theorem DrS.addI (h : DrS w wr N ab cb bs as0 cs ss) (x : Int) (hx : -9223372036854775808 ≤ x ∧ x ≤ 9223372036854775807) (hL : ss.length ≤ 100000) :
    ∃ a' c' w', (Builtin.append_ #[23, 23] 23 #[.slice as0 ss.length cs, .slice (some ⟨wr.heap.size, 0, none⟩) 1 1]).run Tryd.prog (wr.alloc (.cells #[.int .i64 x] 3)) = .ok (.slice a' (ss ++ [x]).length c') w' ∧ DrS w w' N ab cb bs a' c' (ss ++ [x]) := by
  have b0 : Below wr.heap.size wr (wr.alloc (.cells #[.int .i64 x] 3)) := (Below.refl _ wr).alloc (Nat.le_refl _) _
  have h1 := h.keep b0
  obtain ⟨a', c', w', h2, h3, g⟩ := appI_g _ N h1.le as0 ss cs h1.oi ⟨wr.heap.size, 0, none⟩ [x] 1 (one_isI wr x hx) hL (by simp)
  have hk := ownI_blk h1.oi
  exact ⟨a', c', w', h2, World.ownsRow.kept h1.ob g (own_apart h1.oi h1.ob).2, h3, grown_belowD h1.bl g (fun k e => (hk k e).1) h1.le, Nat.le_trans h1.le g.size⟩
end
theorem mem_take_next {l : List Int} {s : Int} {j : Nat} (h : j < l.length) : s ∈ l.take (j + 1) ↔ s ∈ l.take j ∨ l[j] = s := by
  rw [List.take_succ_eq_append_getElem h, List.mem_append, List.mem_singleton]
  exact ⟨fun q => q.elim .inl (fun e => .inr e.symm), fun q => q.elim .inl (fun e => .inr e.symm)⟩

set_option maxRecDepth 20000 in
set_option maxHeartbeats 16000000 in
theorem dread_go (base br : Nat) (ok : Nat → Prop) (d : Dk) (first : Int) (n : Nat) (bs1 ss1 : List Int) (c1 at1 : Int) (w : World) (h : IsR w base br ok d) (hpl : d.pend.length ≤ 1000000) (hn1 : 1 ≤ n) (hn2 : n ≤ 65542) (hf : -9223372036854775808 ≤ first ∧ first ≤ 9223372036854775807) (hR : rdG d (cntC n + 1) [] [] first n = (bs1, ss1, c1, at1)) :
    Calls Tryd.prog 25 #[.pointer (some ⟨br, 0, none⟩), .int .i64 first, .int .i64 (n : Nat)] w (DrQ w bs1 ss1 c1 at1) := by
  obtain ⟨N, hN⟩ : ∃ N, w.heap.size = N := ⟨_, rfl⟩
  have HN : Hid (w.heap.size = N) := hN
  have HD : Hid (∀ w', Below N w w' → IsR w' base br ok d) := fun w' bb => h.keep (by rw [hN]; exact bb)
  have OKD : Hid (DkOk d) := h.ok'
  have few := h.ok'.few
  obtain ⟨asS, csS, gs, aw, cw, hs', hat, _⟩ := h
  have hb0 : w.cell? ⟨br, 0, none⟩ = some (.slice asS gs.length csS) := hat.cell 0
  have brl : br < N := by rw [← hN]; exact lt_of_cell hb0
  rw [hat.gl] at hb0
  have HB0 : Hid (∀ w', Below N w w' → w'.cell? ⟨br, 0, none⟩ = some (.slice asS d.n csS)) := fun w' bb => (bb.cell (p := ⟨br, 0, none⟩) brl).trans hb0
  have S0 : Hid (DrS w w N none 0 [] none 0 []) := ⟨ownsB_nil _ _, ownsI_nil _ _, Below.refl _ _, by rw [hN]; exact Nat.le_refl _⟩
  have HR : Hid (rdG d (cntC n + 1) [] [] first n = (bs1, ss1, c1, at1)) := hR
  have g1 : ¬ (n : Int) < 1 := by omega
  have g2 : ¬ (65542 : Int) < (n : Int) := by omega
  have dn2 : IntKind.i64.wrap ((d.n : Int) - 2) = (d.n : Int) - 2 := by rw [IntKind.wrap_i64]; omega
  clear hN hR hat hb0 brl
  go_enter Tryd.func25, Tryd.ntmps25
  go_wp2
  go_loopw [10, 11, 12, 13] (fun bv sv av lv wr => ∃ ab cb bs as0 cs ss s L f, bv = .slice ab bs.length cb ∧ sv = .slice as0 ss.length cs ∧ av = .int .i64 s ∧ lv = .int .i64 L ∧ DrS w wr N ab cb bs as0 cs ss ∧ (-9223372036854775808 ≤ s ∧ s ≤ 9223372036854775807) ∧ bs.length + L.toNat = n ∧ -56 ≤ L ∧ ss.length ≤ bs.length ∧ L.toNat ≤ 56 * f ∧ (∀ x ∈ ss, -9223372036854775808 ≤ x ∧ x ≤ 9223372036854775807) ∧ rdG d (f + 1) bs ss s L.toNat = (bs1, ss1, c1, at1)) (fun _ _ _ lv _ => (intOf lv + 57).toNat)
  case atStart => exact ⟨none, 0, [], none, 0, [], first, (n : Int), cntC n, rfl, rfl, rfl, rfl, S0.out, hf, by simp, by omega, Nat.zero_le _, by unfold cntC; omega, by (intro x hx; cases hx), by rw [Int.toNat_natCast]; exact HR.out⟩
  case round =>
    obtain ⟨ab, cb, bs, as0, cs, ss, s, L, f, rfl, rfl, rfl, rfl, hS, hs, hleft, hL56, hssl, hfu, hrng, hr⟩ := hrel
    have HS : Hid (DrS w wr N ab cb bs as0 cs ss) := hS
    have HRG : Hid (∀ x ∈ ss, -9223372036854775808 ≤ x ∧ x ≤ 9223372036854775807) := hrng
    clear hS hrng
    by_cases hl0 : 0 < L
    rotate_left
    · have e0 : L.toNat = 0 := by omega
      rw [e0, rdG_end] at hr
      simp only [Prod.mk.injEq] at hr
      obtain ⟨rfl, rfl, rfl, rfl⟩ := hr
      go_wp2
      refine bodyPost_ret (v := .tuple #[.slice ab bs.length cb, .slice as0 ss.length cs, .int .i64 0, .int .i64 (-1)]) (by simp [results, Tryd.results25, go_sem]) rfl ?_
      exact ⟨ab, cb, as0, cs, rfl, by rw [HN.out]; exact HS.out.ob, by rw [HN.out]; exact HS.out.oi, by rw [HN.out]; exact HS.out.bl⟩
    · obtain ⟨left, hlL⟩ : ∃ left : Nat, L = left := ⟨L.toNat, by omega⟩
      subst hlL
      rw [Int.toNat_natCast] at hleft hfu hr
      have HG : Hid (rdG d (f + 1) bs ss s left = (bs1, ss1, c1, at1)) := hr
      have hlN : left ≠ 0 := by omega
      have II : Hid (IsI wr as0 ss) := ownsI_isI HRG.out HS.out.oi
      have lw : IntKind.i64.wrap ((left : Int) - 56) = (left : Int) - 56 := by rw [IntKind.wrap_i64]; omega
      have HB0w := HB0.out wr HS.out.bl
      clear hr
      go_wp2
      go_loop [14, 38] (fun gv jv => ∃ j : Nat, j ≤ ss.length ∧ jv = .int .i64 (j : Nat) ∧ gv = .bool (decide (s ∈ ss.take j))) (fun _ jv => ss.length - (intOf jv).toNat)
      case atStart => exact ⟨0, Nat.zero_le _, rfl, by simp⟩
      case round =>
        obtain ⟨j, hj, rfl, rfl⟩ := hrel
        by_cases hjl : j < ss.length
        · obtain ⟨ib, io, rfl, _, hcj, _, _⟩ := II.out.at' hjl
          obtain ⟨y, hy⟩ : ∃ y, ss[j] = y := ⟨_, rfl⟩
          have NXT := mem_take_next (s := s) hjl
          rw [hy] at hcj NXT
          by_cases hm : s ∈ ss.take j
          · have NX : Hid (decide (s ∈ ss.take (j + 1)) = true) := decide_eq_true (NXT.2 (.inl hm))
            rw [decide_eq_true hm]
            clear NXT hy hm
            go_wp2
            go_round
            case rel => exact ⟨j + 1, by omega, by go_num, by rw [NX.out]⟩
            case measure => simp [intOf]; omega
          · rw [decide_eq_false hm]
            by_cases hys : y = s
            · have NX : Hid (decide (s ∈ ss.take (j + 1)) = true) := decide_eq_true (NXT.2 (.inr hys))
              subst hys
              clear NXT hm hy
              go_wp2
              go_round
              case rel => exact ⟨j + 1, by omega, by go_num, by rw [NX.out]⟩
              case measure => simp [intOf]; omega
            · have NX : Hid (decide (s ∈ ss.take (j + 1)) = false) := decide_eq_false (fun q => (NXT.1 q).elim hm hys)
              have hys1 : (y == s) = false := by rw [beq_eq_false_iff_ne]; exact hys
              clear NXT hm hy hys
              go_wp2
              go_round
              case rel => exact ⟨j + 1, by omega, by go_num, by rw [NX.out]⟩
              case measure => simp [intOf]; omega
        · obtain rfl : j = ss.length := by omega
          rw [List.take_length]
          by_cases hs1 : s < 1
          · have q := HG.out
            rw [rdG_bad hlN (by rw [secE_bad (.inr (by omega))]; decide), secE_bad (.inr (by omega))] at q
            simp only [Prod.mk.injEq] at q
            obtain ⟨rfl, rfl, rfl, rfl⟩ := q
            go_wp2
            refine bodyPost_ret (v := .tuple #[.slice none 0 0, .slice none 0 0, .int .i64 4, .int .i64 s]) (by simp [results, Tryd.results25, go_sem]) rfl ?_
            exact DrQ.bad (by rw [HN.out]; exact HS.out.bl)
          · by_cases hs2 : (d.n : Int) - 2 < s
            · have q := HG.out
              rw [rdG_bad hlN (by rw [secE_bad (.inr (by omega))]; decide), secE_bad (.inr (by omega))] at q
              simp only [Prod.mk.injEq] at q
              obtain ⟨rfl, rfl, rfl, rfl⟩ := q
              go_wp2
              refine bodyPost_ret (v := .tuple #[.slice none 0 0, .slice none 0 0, .int .i64 4, .int .i64 s]) (by simp [results, Tryd.results25, go_sem]) rfl ?_
              exact DrQ.bad (by rw [HN.out]; exact HS.out.bl)
            · by_cases hm : s ∈ ss
              · have q := HG.out
                rw [rdG_bad hlN (by rw [secE_bad (.inl hm)]; decide), secE_bad (.inl hm)] at q
                simp only [Prod.mk.injEq] at q
                obtain ⟨rfl, rfl, rfl, rfl⟩ := q
                rw [decide_eq_true hm]
                go_wp2
                refine bodyPost_ret (v := .tuple #[.slice none 0 0, .slice none 0 0, .int .i64 4, .int .i64 s]) (by simp [results, Tryd.results25, go_sem]) rfl ?_
                exact DrQ.bad (by rw [HN.out]; exact HS.out.bl)
              · rw [decide_eq_false hm]
                have SE := secE_of (d := d) (ss := ss) (left := left) hm (by omega) (by omega)
                cases hd : d.down
                rotate_left
                · have E : closedE d s = 14 := by unfold closedE; rw [if_pos hd]
                  have RD : Hid (Calls Tryd.prog 47 #[.pointer (some ⟨br, 0, none⟩), .int .i64 s] wr fun e w' => e = .returned (.tuple #[.slice none 0 0, .int .i64 14]) ∧ wr = w') := by
                    have q := rread_closed base br ok d s wr (HD.out _ HS.out.bl) (by rw [E]; decide)
                    rw [E] at q; exact q
                  have r14 : rsE d s left = 14 := if_pos hd
                  have q := HG.out
                  rw [rdG_bad hlN (by rw [SE, r14]; decide), SE, r14] at q
                  simp only [Prod.mk.injEq] at q
                  obtain ⟨rfl, rfl, rfl, rfl⟩ := q
                  clear hd E SE r14 hm
                  go_wp2_with (go_at_call 47; refine Calls.mono RD.out ?_; rintro e w' ⟨rfl, rfl⟩)
                  refine bodyPost_ret (v := .tuple #[.slice none 0 0, .slice none 0 0, .int .i64 14, .int .i64 s]) (by simp [results, Tryd.results25, go_sem]) rfl ?_
                  exact DrQ.bad (by rw [HN.out]; exact HS.out.bl)
                · have hc := closed_of (d := d) (s := s) (by omega) (by omega) hd
                  obtain ⟨B, hB⟩ : ∃ B, readL d s = B := ⟨_, rfl⟩
                  obtain ⟨b64, bAll⟩ := readL_ok (i := s) OKD.out hc
                  rw [hB] at b64 bAll
                  have RD : Hid (Calls Tryd.prog 47 #[.pointer (some ⟨br, 0, none⟩), .int .i64 s] wr fun e w' => ∃ g, e = .returned (.tuple #[.slice (some ⟨g, 0, none⟩) 64 64, .int .i64 0]) ∧ RowB w' g 5 B ∧ Below wr.heap.size wr w') := by
                    have q := rread_open base br ok d s wr (HD.out _ HS.out.bl) hc hpl
                    rw [hB] at q; exact q
                  have R : rsE d s left = if sumOkC B = false then 5 else if left ≤ 56 ∧ endOkC B left = false then 4 else 0 := by unfold rsE; rw [hB, if_neg (by rw [hd]; decide)]
                  rw [← SE] at R
                  have BADG : Hid (∀ x : Int, secE d ss s left = x → x ≠ 0 → ([], [], x, s) = (bs1, ss1, c1, at1)) := fun x e0 e1 => by
                    have q := HG.out
                    rw [rdG_bad hlN (by rw [e0]; exact e1), e0] at q
                    exact q
                  obtain ⟨nx, hnx⟩ : ∃ nx, nextC B = nx := ⟨_, rfl⟩
                  obtain ⟨nx0, nx1⟩ := nextC_bd bAll
                  rw [hnx] at nx0 nx1
                  have GO : Hid (secE d ss s left = 0 → ∃ f', f = f' + 1 ∧ rdG d (f' + 1) (bs ++ B.take (min left 56)) (ss ++ [s]) nx (left - 56) = (bs1, ss1, c1, at1)) := fun e0 => by
                    have q := HG.out
                    obtain ⟨f', rfl⟩ : ∃ f', f = f' + 1 := ⟨f - 1, by omega⟩
                    rw [rdG_go hlN e0, hB, hnx] at q
                    exact ⟨f', rfl, q⟩
                  obtain ⟨v, hv⟩ : ∃ v, getL (B.drop 60) = v := ⟨_, rfl⟩
                  obtain ⟨S, hSS⟩ : ∃ S, sumI (B.take 60) = S := ⟨_, rfl⟩
                  obtain ⟨sb0, sb1⟩ := sumI_bd (bAll.take 60)
                  rw [hSS] at sb0 sb1
                  have wS : IntKind.u64.wrap S = S := by rw [IntKind.wrap_u64]; omega
                  have wN : IntKind.i64.wrap nx = nx := by rw [IntKind.wrap_i64]; omega
                  have LA : Hid (4 = (B.drop 60).length) := by show _ = _; simp [b64]
                  have LB : Hid (60 = (B.take 60).length) := by show _ = _; simp [b64]
                  have LC : Hid (4 = ((B.drop 56).take 4).length) := by show _ = _; simp [b64]
                  have VA : Hid (getL ((B.drop 60).take 8) = v) := by show _ = _; rw [List.take_of_length_le (by simp [b64])]; exact hv
                  have VB : Hid (sumI (B.take 60) = S) := hSS
                  have VC : Hid (getL (((B.drop 56).take 4).take 8) = nx) := by
                    show _ = _
                    rw [List.take_of_length_le (by simp [b64]), ← hnx, nextC, List.drop_take]
                  have IA : Hid (∀ w' g, RowB w' g 5 B → IsB w' (some ⟨g, 60, none⟩) (B.drop 60)) := fun w' g r => by
                    have q := (r.isB bAll).part 60 4 rfl
                    rw [List.take_of_length_le (by simp [b64])] at q
                    simpa using q
                  have IB : Hid (∀ w' g, RowB w' g 5 B → IsB w' (some ⟨g, 0, none⟩) (B.take 60)) := fun w' g r => by
                    have q := (r.isB bAll).part 0 60 rfl
                    simpa using q
                  have IC : Hid (∀ w' g, RowB w' g 5 B → IsB w' (some ⟨g, 56, none⟩) ((B.drop 56).take 4)) := fun w' g r => by
                    have q := (r.isB bAll).part 56 4 rfl
                    simpa using q
                  have IT : Hid (∀ w' g (k : Nat), RowB w' g 5 B → IsB w' (some ⟨g, 0, none⟩) (B.take k)) := fun w' g k r => by
                    have q := (r.isB bAll).part 0 k rfl
                    simpa using q
                  have ML : ∀ l : List Int, l.length ≤ 64 → l.length ≤ maxLen := fun l hl => by unfold maxLen; omega
                  have MA : Hid ((B.drop 60).length ≤ maxLen) := ML _ (by simp [b64])
                  have MB : Hid ((B.take 60).length ≤ maxLen) := ML _ (by simp [b64])
                  have MC : Hid (((B.drop 56).take 4).length ≤ maxLen) := ML _ (by simp [b64])
                  have TL : Hid ((B.take (min left 56)).length = min left 56) := by show _ = _; rw [List.length_take, b64]; omega
                  have B64 : Hid (B.length = 64) := b64
                  have BALL : Hid (AllB B) := bAll
                  have hSO : sumOkC B = decide (v = S) := by unfold sumOkC; rw [hv, hSS]
                  have hEO : endOkC B left = (decide (nx = 0) && ((B.take 56).drop left).all (fun c => decide (c = 0))) := by unfold endOkC; rw [hnx]
                  rw [hSO] at R
                  clear hv hSS ML hSO hB hnx b64 bAll hc hd SE hm
                  by_cases hvs : v = S
                  rotate_left
                  · rw [decide_eq_false hvs, if_pos rfl] at R
                    have q := BADG.out 5 R (by decide)
                    simp only [Prod.mk.injEq] at q
                    obtain ⟨rfl, rfl, rfl, rfl⟩ := q
                    have hvs1 : (S != v) = true := by rw [bne_iff_ne]; exact fun e => hvs e.symm
                    clear R hEO
                    go_wp2_with (go_at_call 47; refine Calls.mono RD.out ?_; rintro e w1 ⟨g, rfl, r1, b1⟩; have R1 : Hid (RowB w1 g 5 B) := r1; have S1 : Hid (DrS w w1 N ab cb bs as0 cs ss) := HS.out.keep b1; clear r1 b1)
                    go_quiet (first | (go_at_call 48; exact Calls.quiet_of_same (rget_q _ _ _ _ v _ LA.out VA.out ((IA.out _ _ R1.out).drewN _) MA.out)) | (go_at_call 34; exact Calls.quiet_of_same (rsum_q _ _ _ _ S _ LB.out VB.out ((IB.out _ _ R1.out).drewN _) MB.out)))
                    have S2 : Hid (DrS w (w1.drewN nq) N ab cb bs as0 cs ss) := S1.out.keep (belowSelfN _ _)
                    have R2 : Hid (RowB (w1.drewN nq) g 5 B) := rowDN R1.out nq
                    go_wp2
                    refine bodyPost_ret (v := .tuple #[.slice none 0 0, .slice none 0 0, .int .i64 5, .int .i64 s]) (by simp [results, Tryd.results25, go_sem]) rfl ?_
                    exact DrQ.bad (by rw [HN.out]; exact S2.out.bl)
                  · rw [decide_eq_true hvs, if_neg (by decide)] at R
                    subst hvs
                    by_cases hle : left ≤ 56
                    rotate_left
                    · rw [if_neg (fun q => hle q.1)] at R
                      obtain ⟨f', rfl, q⟩ := GO.out R
                      have HQ : Hid (rdG d (f' + 1) (bs ++ B.take (min left 56)) (ss ++ [s]) nx (left - 56) = (bs1, ss1, c1, at1)) := q
                      have emin : min left 56 = 56 := Nat.min_eq_right (by omega)
                      rw [emin] at HQ TL
                      have hle1 : ¬ (left : Int) ≤ 56 := by omega
                      have hle2 : (56 : Int) < left := by omega
                      clear R q hEO hle
                      go_wp2_with (go_at_call 47; refine Calls.mono RD.out ?_; rintro e w1 ⟨g, rfl, r1, b1⟩; have R1 : Hid (RowB w1 g 5 B) := r1; have S1 : Hid (DrS w w1 N ab cb bs as0 cs ss) := HS.out.keep b1; clear r1 b1)
                      go_quiet (first | (go_at_call 48; exact Calls.quiet_of_same (rget_q _ _ _ _ v _ LA.out VA.out ((IA.out _ _ R1.out).drewN _) MA.out)) | (go_at_call 34; exact Calls.quiet_of_same (rsum_q _ _ _ _ v _ LB.out VB.out ((IB.out _ _ R1.out).drewN _) MB.out)))
                      have S2 : Hid (DrS w (w1.drewN nq) N ab cb bs as0 cs ss) := S1.out.keep (belowSelfN _ _)
                      have R2 : Hid (RowB (w1.drewN nq) g 5 B) := rowDN R1.out nq
                      obtain ⟨a6, c6, w6, h6, s6⟩ := S2.out.addB ⟨g, 0, none⟩ (B.take 56) 56 64 TL.out (IT.out _ _ _ R2.out) (by rw [TL.out]; omega)
                      obtain ⟨a7, c7, w7, h7, s7⟩ := s6.addI s hs (by omega)
                      have S7 : Hid (DrS w w7 N a6 c6 (bs ++ B.take 56) a7 c7 (ss ++ [s])) := s7
                      clear s6 s7
                      go_wp2_with (first
                        | (go_at_call 48; refine (rget_q _ _ _ _ nx _ LC.out VC.out (IC.out _ _ R2.out) MC.out).mono ?_; rintro e w' ⟨rfl, rfl⟩)
                        | (at_builtin; refine wpList_bi rfl _ _ 22 rfl _ _ rfl rfl _ _ h6 ?_)
                        | (at_builtin; refine wpList_bi rfl _ _ 23 rfl _ _ rfl rfl _ _ h7 ?_))
                      go_roundw
                      case rel => exact ⟨a6, c6, bs ++ B.take 56, a7, c7, ss ++ [s], nx, (left : Int) - 56, f', by first | rfl | simp, by first | rfl | simp, rfl, rfl, S7.out, by omega, by rw [List.length_append, TL.out]; omega, by omega, by rw [List.length_append, List.length_append, TL.out]; simp; omega, by omega, by (intro x hx; rcases List.mem_append.1 hx with hx | hx; exact HRG.out x hx; rw [List.mem_singleton.1 hx]; exact hs), by rw [show ((left : Int) - 56).toNat = left - 56 by omega]; exact HQ.out⟩
                      case measure => simp [intOf]; omega
                    · have emin : min left 56 = left := Nat.min_eq_left hle
                      have hle1 : (left : Int) ≤ 56 := by omega
                      obtain ⟨T, hT⟩ : ∃ T, (B.take 56).drop left = T := ⟨_, rfl⟩
                      have LT : Hid (T.length = 56 - left) := by show _ = _; rw [← hT, List.length_drop, List.length_take, B64.out]; rfl
                      have TLN : ((56 - left : Nat) : Int) = 56 - (left : Int) := by omega
                      have IDT : Hid (∀ w' g, RowB w' g 5 B → IsB w' (some ⟨g, left, none⟩) T) := fun w' g r => by
                        have q := (r.isB BALL.out).part left (56 - left) rfl
                        rw [← List.drop_take, hT] at q
                        simpa using q
                      rw [hT] at hEO
                      have HEO : Hid (endOkC B left = (decide (nx = 0) && T.all (fun c => decide (c = 0)))) := hEO
                      have HRR : Hid (secE d ss s left = if left ≤ 56 ∧ endOkC B left = false then 4 else 0) := R
                      obtain ⟨z0, hz0⟩ : ∃ z0 : Bool, decide (nx = 0) = z0 := ⟨_, rfl⟩
                      have hz1 : (nx != 0) = !z0 := by rw [← hz0]; by_cases e : nx = 0 <;> simp [e]
                      rw [hz0] at HEO
                      have HZ0 : Hid (decide (nx = 0) = z0) := hz0
                      clear R hEO hT hz0
                      go_wp2_with (go_at_call 47; refine Calls.mono RD.out ?_; rintro e w1 ⟨g, rfl, r1, b1⟩; have R1 : Hid (RowB w1 g 5 B) := r1; have S1 : Hid (DrS w w1 N ab cb bs as0 cs ss) := HS.out.keep b1; clear r1 b1)
                      go_quiet (first | (go_at_call 48; exact Calls.quiet_of_same (rget_q _ _ _ _ v _ LA.out VA.out ((IA.out _ _ R1.out).drewN _) MA.out)) | (go_at_call 34; exact Calls.quiet_of_same (rsum_q _ _ _ _ v _ LB.out VB.out ((IB.out _ _ R1.out).drewN _) MB.out)))
                      have S2 : Hid (DrS w (w1.drewN nq) N ab cb bs as0 cs ss) := S1.out.keep (belowSelfN _ _)
                      have R2 : Hid (RowB (w1.drewN nq) g 5 B) := rowDN R1.out nq
                      have IDW : Hid (IsB (w1.drewN nq) (some ⟨g, left, none⟩) T) := IDT.out _ _ R2.out
                      obtain ⟨TN, hTN⟩ : ∃ TN : Nat, 56 - left = TN := ⟨_, rfl⟩
                      rw [hTN] at LT TLN
                      have HTN : Hid (56 - left = TN) := hTN
                      clear hTN
                      go_wp2_with (go_at_call 48; refine (rget_q _ _ _ _ nx _ LC.out VC.out (IC.out _ _ R2.out) MC.out).mono ?_; rintro e w' ⟨rfl, rfl⟩)
                      go_loop [21, 98] (fun bv kv => ∃ k : Nat, k ≤ TN ∧ kv = .int .i64 (k : Nat) ∧ bv = .bool (!(z0 && (T.take k).all fun c => decide (c = 0)))) (fun _ kv => TN - (intOf kv).toNat)
                      case atStart => exact ⟨0, Nat.zero_le _, rfl, by simp⟩
                      case round =>
                        obtain ⟨k, hk, rfl, rfl⟩ := hrel
                        by_cases hkl : k < TN
                        · have hkT : k < T.length := by rw [LT.out]; exact hkl
                          have hck := IDW.out.at k hkT
                          obtain ⟨x, hx⟩ : ∃ x, T[k] = x := ⟨_, rfl⟩
                          rw [getD_at hkT, hx] at hck
                          have SN := all_take_snoc hkT
                          rw [hx] at SN
                          obtain ⟨Z, hZ⟩ : ∃ Z : Bool, (T.take k).all (fun c => decide (c = 0)) = Z := ⟨_, rfl⟩
                          rw [hZ] at SN ⊢
                          have SNH : Hid ((T.take (k + 1)).all (fun c => decide (c = 0)) = (Z && decide (x = 0))) := SN
                          clear SN hx hZ
                          cases hbb : (z0 && Z)
                          · have NX : Hid ((z0 && (T.take (k + 1)).all fun c => decide (c = 0)) = false) := by
                              show _ = _
                              rw [SNH.out, ← Bool.and_assoc, hbb]; rfl
                            clear hbb
                            go_wp2
                            go_round
                            case rel => exact ⟨k + 1, by omega, by go_num, by rw [NX.out]; rfl⟩
                            case measure => simp [intOf]; omega
                          · by_cases hx0 : x = 0
                            · have NX : Hid ((z0 && (T.take (k + 1)).all fun c => decide (c = 0)) = true) := by
                                show _ = _
                                rw [SNH.out, ← Bool.and_assoc, hbb, decide_eq_true hx0]; rfl
                              subst hx0
                              clear hbb
                              go_wp2
                              go_round
                              case rel => exact ⟨k + 1, by omega, by go_num, by rw [NX.out]; rfl⟩
                              case measure => simp [intOf]; omega
                            · have NX : Hid ((z0 && (T.take (k + 1)).all fun c => decide (c = 0)) = false) := by
                                show _ = _
                                rw [SNH.out, ← Bool.and_assoc, hbb, decide_eq_false hx0]; rfl
                              have hx1 : (x != 0) = true := by rw [bne_iff_ne]; exact hx0
                              clear hbb hx0
                              go_wp2
                              go_round
                              case rel => exact ⟨k + 1, by omega, by go_num, by rw [NX.out]; rfl⟩
                              case measure => simp [intOf]; omega
                        · obtain rfl : k = TN := by omega
                          have et : T.take k = T := List.take_of_length_le (by rw [LT.out]; exact Nat.le_refl _)
                          rw [et, ← HEO.out]
                          cases he : endOkC B left
                          · have q := BADG.out 4 (by rw [HRR.out, if_pos ⟨hle, he⟩]) (by decide)
                            simp only [Prod.mk.injEq] at q
                            obtain ⟨rfl, rfl, rfl, rfl⟩ := q
                            clear he et
                            go_wp2
                            refine bodyPost_ret (v := .tuple #[.slice none 0 0, .slice none 0 0, .int .i64 4, .int .i64 s]) (by simp [results, Tryd.results25, go_sem]) rfl ?_
                            exact DrQ.bad (by rw [HN.out]; exact S2.out.bl)
                          · obtain ⟨f', rfl, q⟩ := GO.out (by rw [HRR.out, if_neg (by rw [he]; simp)])
                            have HQ : Hid (rdG d (f' + 1) (bs ++ B.take (min left 56)) (ss ++ [s]) nx (left - 56) = (bs1, ss1, c1, at1)) := q
                            rw [emin] at HQ TL
                            clear q he et
                            obtain ⟨a6, c6, w6, h6, s6⟩ := S2.out.addB ⟨g, 0, none⟩ (B.take left) left 64 TL.out (IT.out _ _ _ R2.out) (by rw [TL.out]; omega)
                            obtain ⟨a7, c7, w7, h7, s7⟩ := s6.addI s hs (by omega)
                            have S7 : Hid (DrS w w7 N a6 c6 (bs ++ B.take left) a7 c7 (ss ++ [s])) := s7
                            clear s6 s7
                            go_wp2_with (first
                              | (at_builtin; refine wpList_bi rfl _ _ 22 rfl _ _ rfl rfl _ _ h6 ?_)
                              | (at_builtin; refine wpList_bi rfl _ _ 23 rfl _ _ rfl rfl _ _ h7 ?_))
                            go_roundw
                            case rel => exact ⟨a6, c6, bs ++ B.take left, a7, c7, ss ++ [s], nx, (left : Int) - 56, f', by first | rfl | simp, by first | rfl | simp, rfl, rfl, S7.out, by omega, by rw [List.length_append, TL.out]; omega, by omega, by rw [List.length_append, List.length_append, TL.out]; simp; omega, by omega, by (intro x hx; rcases List.mem_append.1 hx with hx | hx; exact HRG.out x hx; rw [List.mem_singleton.1 hx]; exact hs), by rw [show ((left : Int) - 56).toNat = left - 56 by omega]; exact HQ.out⟩
                            case measure => simp [intOf]; omega
end Go.Proofs.YtgmmgklcndnehaaDoor
