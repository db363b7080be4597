/- The walk of KindTable. -/
import Derived.Test.YtkcnanpojnbepaaKeA
import Derived.Test.YtkcnanpojnbepaaKeS
namespace Go.Proofs.Ytkcnanpojnbepaa
open Go.RowKit
set_option linter.unusedVariables false

set_option maxRecDepth 20000 in
set_option maxHeartbeats 8000000 in
theorem kindTable_any (a : Option Addr) (cap : Nat) (ls : List Kd) (id : Int) (w : World) (hK : IsK w a ls) (hm : ls.length ≤ maxLen) (hid : -9223372036854775808 ≤ id ∧ id ≤ 9223372036854775807) :
    Calls Try.prog 7 #[.slice a ls.length cap, .int .i64 id] w fun e w' => e = .returned (.bool true) ∧ Below w.heap.size w w' := by
  have HL : Hid (IsK w a ls) := hK
  unfold maxLen at hm
  clear hK
  go_enter Try.func7, Try.ntmps7
  go_wp2_with fail
  refine (alive_any _).mono ?_
  rintro e w1 ⟨rfl, b1⟩
  have B1 : Hid (Below w.heap.size w w1) := b1
  clear b1
  go_wp2_with fail
  refine (tnew_any _).mono ?_
  rintro e w2 ⟨t, rfl, t2, b2⟩
  have S0 : Hid (Kt w w2 ls t none 0 [] none 0 []) :=
    ⟨⟨t2.box, rowK_nil _ _, fun k hk => by (cases hk), t2.right, t2.all, t2.len, Nat.le_trans B1.out.size t2.ge⟩, rowK_nil _ _, .inl rfl, rfl, fun j h => by simp at h, fun k hk => by (cases hk), B1.out.trans (b2.mono B1.out.size)⟩
  clear t2 b2
  go_wp2
  go_loopw [6, 7] (fun wv iv wr => ∃ (i : Nat) (ar : Option Addr) (cr : Nat) (ks : List Kd) (aw : Option Addr) (cw : Nat) (ws : List Kd), i ≤ 100 ∧ iv = .int .i64 i ∧ wv = .slice aw ks.length cw ∧ Kt w wr ls t ar cr ks aw cw ws) (fun _ iv _ => 100 - (intOf iv).toNat)
  case atStart => exact ⟨0, none, 0, [], none, 0, [], by omega, rfl, rfl, S0.out⟩
  case round =>
    obtain ⟨i, ar, cr, ks, aw, cw, ws, hi, rfl, rfl, hS⟩ := hrel
    have HS : Hid (Kt w wr ls t ar cr ks aw cw ws) := hS
    have h64 := hS.tb.len
    have hwr := hS.below.size
    by_cases hgo : i < ls.length ∧ i < 100
    · obtain ⟨hlt, hlt'⟩ := hgo
      have hK := HL.out.keep hS.below
      obtain h0 | ⟨b, off, rfl, hs, hc⟩ := hK.at'
      · rw [h0] at hlt; simp at hlt
      obtain ⟨x0, x1⟩ := hc i hlt
      obtain ⟨IX, NX, MX⟩ := HL.out.body ls[i] (List.getElem_mem hlt)
      have CK : Hid (∀ w', Below w.heap.size w w' → w'.cell? ⟨b, off + i * 2, none⟩ = some (.int .i64 ls[i].s) ∧ w'.cell? ⟨b, off + i * 2 + 1, none⟩ = some (.slice ls[i].a ls[i].l.length ls[i].c)) := fun w' hb => by
        obtain h0 | ⟨b', off', e, _, hc'⟩ := (HL.out.keep hb).at'
        · rw [h0] at hlt; simp at hlt
        · simp only [Option.some.injEq, Addr.mk.injEq] at e
          obtain ⟨rfl, rfl, _⟩ := e
          exact hc' i hlt
      have HMEM : Hid (ls[i] ∈ ls) := List.getElem_mem hlt
      generalize ls[i] = k at *
      obtain ⟨s, ak, ck, l⟩ := k
      dsimp only at x0 x1 IX NX MX CK
      have HI : Hid (IsI w ak l) := IX
      have HN : Hid (ak = none → l = [] ∧ ck = 0) := NX
      have HM : Hid (l.length ≤ maxLen) := MX
      obtain ⟨r, hr⟩ : ∃ r, checkK s l = r := ⟨_, rfl⟩
      have ER : Hid (checkK s l = r) := hr
      have hii : (i : Int) < (ls.length : Int) := by omega
      have hii' : (i : Int) < 100 := by omega
      clear hS hK hc hs IX NX MX hr
      by_cases hr0 : r = 0
      · subst hr0
        by_cases hful : ks.length = 64
        · have HF : Hid (ks.length = 64) := hful
          have q1 : ((ks.length : Int) == 64) = true := by rw [hful]; rfl
          clear hful h64
          go_wp2_with fail
          refine (add_full _ _ t ar cr ks s ak ck l _ HS.out.tb (HI.out.keep HS.out.below) HM.out ER.out HF.out).mono ?_
          rintro e w3 ⟨rfl, b3⟩
          have S3 : Hid (Kt w w3 ls t ar cr ks aw cw ws) := HS.out.keep b3
          obtain ⟨y0, y1⟩ := CK.out w3 S3.out.below
          clear b3 x0 x1
          go_wp2_with fail
          refine (rcheck_is s ak ck _ l 0 _ rfl ER.out (HI.out.keep S3.out.below) HM.out).mono ?_
          rintro e w4 ⟨rfl, b4⟩
          have S4 : Hid (Kt w w4 ls t ar cr ks aw cw ws) := S3.out.keep b4
          clear b4 y0 y1
          go_wp2
          go_roundw
          case rel => exact ⟨i + 1, ar, cr, ks, aw, cw, ws, by omega, by go_num, rfl, S4.out⟩
          case measure => simp [intOf]; omega
        · have hl64 : ks.length < 64 := by omega
          have q1 : ((ks.length : Int) == 64) = false := by rw [beq_eq_false_iff_ne]; omega
          have q2 : ((ks.length : Int) != (ks.length : Int)) = false := by simp
          clear hful h64
          go_wp2_with fail
          refine (add_ok _ _ t ar cr ks s ak ck l _ HS.out.tb (HI.out.keep HS.out.below) HN.out ER.out hl64 hwr hwr).mono ?_
          rintro e w3 ⟨rfl, ar', cr', a3, c3, t3, o3, g3, f3⟩
          obtain ⟨m1, m2, m3⟩ := HS.out.mid t3 g3 f3
          have T3 : Hid (Tb w3 w.heap.size w.heap.size t ar' cr' (ks ++ [⟨s, a3, c3, l⟩])) := t3
          have R3 : Hid (RowK w3 w.heap.size aw ws cw) := m1
          have A3 : Hid (ob ar' = none ∨ ob ar' ≠ ob aw) := m2
          have B3 : Hid (Below w.heap.size w w3) := m3
          obtain ⟨y0, y1⟩ := CK.out w3 m3
          clear t3 o3 g3 f3 m1 m2 m3 x0 x1
          go_wp2_with fail
          refine (rcheck_is s ak ck _ l 0 _ rfl ER.out (HI.out.keep B3.out) HM.out).mono ?_
          rintro e w4 ⟨rfl, b4⟩
          have T4 : Hid (Tb w4 w.heap.size w.heap.size t ar' cr' (ks ++ [⟨s, a3, c3, l⟩])) := T3.out.keep b4
          have R4 : Hid (RowK w4 w.heap.size aw ws cw) := R3.out.keep b4
          have B4 : Hid (Below w.heap.size w w4) := B3.out.trans (b4.mono B3.out.size)
          obtain ⟨z0, z1⟩ := CK.out w4 B4.out
          have b5 := box_below w4 s ak l.length ck
          have T5 : Hid (Tb (w4.alloc (.cells #[.int .i64 s, .slice ak l.length ck] 24)) w.heap.size w.heap.size t ar' cr' (ks ++ [⟨s, a3, c3, l⟩])) := T4.out.keep b5
          have R5 : Hid (RowK (w4.alloc (.cells #[.int .i64 s, .slice ak l.length ck] 24)) w.heap.size aw ws cw) := R4.out.keep b5
          have B5 : Hid (Below w.heap.size w (w4.alloc (.cells #[.int .i64 s, .slice ak l.length ck] 24))) := B4.out.trans (b5.mono B4.out.size)
          obtain ⟨v0, v1⟩ := box_cells w4 s ak l.length ck
          have V0 : Hid _ := v0
          have V1 : Hid _ := v1
          have HLN : Hid (ks.length = ws.length) := HS.out.len.symm
          have zz5 := B5.out.size
          clear b4 b5 y0 y1 v0 v1
          go_wp2_with (at_builtin; refine wpList_appK rfl rfl _ _ rfl w.heap.size zz5 aw ws cw _ _ _ ⟨s, ak, ck, l⟩ HLN.out rfl rfl R5.out V0.out V1.out (by have := HLN.out; omega) ?_; intro a6 c6 w6 r6 g6 f6; have S6 : Hid (Kt w w6 ls t ar' cr' (ks ++ [⟨s, a3, c3, l⟩]) a6 c6 (ws ++ [⟨s, ak, ck, l⟩])) := Kt.push T5.out R5.out A3.out B5.out HLN.out.symm HS.out.same HS.out.from' r6 g6 f6 rfl rfl HMEM.out; clear r6 g6 f6)
          go_roundw
          case rel => exact ⟨i + 1, ar', cr', ks ++ [⟨s, a3, c3, l⟩], a6, c6, ws ++ [⟨s, ak, ck, l⟩], by omega, by go_num, by rw [List.length_append]; rfl, S6.out⟩
          case measure => simp [intOf]; omega
      · have q1 : (r == 0) = false := by rw [beq_eq_false_iff_ne]; exact hr0
        have q2 : (r != 0) = true := by rw [bne_iff_ne]; exact hr0
        have q3 : (r != r) = false := by simp
        go_wp2_with fail
        refine (add_bad _ _ t ar cr ks s ak ck l r _ HS.out.tb (HI.out.keep HS.out.below) HM.out ER.out hr0).mono ?_
        rintro e w3 ⟨rfl, b3⟩
        have S3 : Hid (Kt w w3 ls t ar cr ks aw cw ws) := HS.out.keep b3
        obtain ⟨y0, y1⟩ := CK.out w3 S3.out.below
        clear b3 x0 x1
        go_wp2_with fail
        refine (rcheck_is s ak ck _ l r _ rfl ER.out (HI.out.keep S3.out.below) HM.out).mono ?_
        rintro e w4 ⟨rfl, b4⟩
        have S4 : Hid (Kt w w4 ls t ar cr ks aw cw ws) := S3.out.keep b4
        clear b4 y0 y1
        go_wp2
        go_roundw
        case rel => exact ⟨i + 1, ar, cr, ks, aw, cw, ws, by omega, by go_num, rfl, S4.out⟩
        case measure => simp [intOf]; omega
    · have hex : ¬ (i : Int) < (ls.length : Int) ∨ ((i : Int) < (ls.length : Int) ∧ ¬ (i : Int) < 100) := by omega
      have hcs : id < 0 ∨ (0 ≤ id ∧ (ks.length : Int) ≤ id) ∨ (0 ≤ id ∧ id < (ks.length : Int)) := by omega
      clear hS hgo
      rcases hcs with h1 | ⟨h1, h2⟩ | ⟨h1, h2⟩
      rotate_right
      · obtain ⟨j, rfl⟩ : ∃ j : Nat, id = j := ⟨id.toNat, by omega⟩
        have hj : j < ks.length := by omega
        have hjw : j < ws.length := by rw [HS.out.len]; exact hj
        have GET : Hid _ := tget_ok _ _ t ar cr ks j _ HS.out.tb hj
        obtain ⟨g, haw, hg, c0, c1⟩ := HS.out.want.cells j hjw
        obtain ⟨es, el⟩ := HS.out.same j hjw hj
        have hbod := HL.out.body _ (HS.out.from' _ (List.getElem_mem hjw))
        rw [es] at c0
        rw [el] at c1 hbod
        generalize ks[j] = k at *
        generalize ws[j] = q at *
        obtain ⟨s, ak, ck, l⟩ := k
        obtain ⟨_, aq, cq, _⟩ := q
        dsimp only at c0 c1 hbod
        have GT : Hid (Calls Try.prog 29 #[.pointer (some ⟨t, 0, none⟩), .int .i64 (j : Nat)] wr fun e w' => ∃ a' c', e = .returned (.tuple #[.agg #[.int .i64 s, .slice a' l.length c'], .int .i64 0]) ∧ OwnsI w' wr.heap.size a' l c' ∧ Below wr.heap.size wr w') := GET.out
        clear GET
        have HI : Hid (IsI w aq l) := hbod.1
        have HM : Hid (l.length ≤ maxLen) := hbod.2.2
        subst haw
        clear hbod es el hjw
        rcases hex with h3 | ⟨h3, h4⟩
        all_goals
          go_wp2_with fail
          refine Calls.mono GT.out ?_
          rintro e w3 ⟨a3, c3, rfl, o3, b3⟩
          obtain ⟨D, hD⟩ : ∃ D, w3.alloc (.cells #[.int .i64 s, .slice a3 l.length c3] 24) = D := ⟨_, rfl⟩
          obtain ⟨i0, i1, b4⟩ := newbox hD
          have S4 : Hid (Kt w D ls t ar cr ks (some ⟨g, 0, none⟩) cw ws) := (HS.out.keep b3).keep b4
          have I4 : Hid (IsI D a3 l) := (ownsI_isI HI.out.1 o3).keep b4
          have k0 := bcellK b4 (bcellK b3 c0)
          have k1 := bcellK b4 (bcellK b3 c1)
          have J4 : Hid (IsI D aq l) := HI.out.keep S4.out.below
          have HD : Hid (w3.alloc (.cells #[.int .i64 s, .slice a3 l.length c3] 24) = D) := hD
          clear o3 b3 b4 hD c0 c1
          go_upto_region 20 with (fail)
          rw [HD.out]
          go_region_held3 (fun w' => w'.cell? ⟨w3.heap.size, 0, none⟩ = some (.int .i64 s) ∧ w'.cell? ⟨w3.heap.size, 1, none⟩ = some (.slice a3 l.length c3) ∧ w'.cell? ⟨g, j * 2, none⟩ = some (.int .i64 s) ∧ w'.cell? ⟨g, j * 2 + 1, none⟩ = some (.slice aq l.length cq)) (first | assumption | exact ⟨by assumption, by assumption, by assumption, by assumption⟩ | go_keep)
            ((go_at_call 13; refine (ksame_true s a3 aq _ _ c3 cq l _ I4.out.drew J4.out.drew rfl rfl HM.out).mono ?_; rintro e w5 ⟨rfl, bS⟩; have BS : Hid (Below D.heap.size D w5) := Below.ofDrew bS; have p0 := bcellK BS.out i0; have p1 := bcellK BS.out i1; have p2 := bcellK BS.out k0; have p3 := bcellK BS.out k1; clear bS))
          have SZ : Hid (Kt w w5 ls t ar cr ks (some ⟨g, 0, none⟩) cw ws) := S4.out.keep BS.out
          clear i0 i1 k0 k1 p0 p1 p2 p3
          go_wp2_with fail
          refine (tlen_any _ _ t ar cr ks _ SZ.out.tb).mono ?_
          rintro e w5' ⟨rfl, rfl⟩
          have qL : ((ks.length : Int) == (ks.length : Int)) = true := beq_self_eq_true _
          go_wp2_with fail
          refine (tall_any _ _ t ar cr ks _ SZ.out.tb).mono ?_
          rintro e w6 ⟨xs, rfl, s6⟩
          have S6 : Hid (Kt w w6 ls t ar cr ks (some ⟨g, 0, none⟩) cw ws) := SZ.out.keep s6.below
          have KX : Hid (IsK w6 (some ⟨w5.heap.size, 0, none⟩) xs) := s6.isK SZ.out.tb.all (fun k hk => (SZ.out.tb.isI k hk).2.2)
          have KW : Hid (IsK w6 (some ⟨g, 0, none⟩) ws) := S6.out.want.isK (fun k hk => by
            have := HL.out.body k (S6.out.from' k hk)
            exact ⟨this.1.keep S6.out.below, this.2⟩)
          have EX : Hid (ks.length = xs.length) := s6.len.symm
          have EW : Hid (ws.length = xs.length) := S6.out.len.trans s6.len.symm
          have EQ : Hid (∀ j (h : j < xs.length) (h' : j < ws.length), xs[j].s = ws[j].s ∧ xs[j].l = ws[j].l) := fun j h h' => by
            have hj : j < ks.length := by rw [EX.out]; exact h
            obtain ⟨e1, e2, _⟩ := s6.done j hj h hj
            obtain ⟨e3, e4⟩ := S6.out.same j h' hj
            exact ⟨e1.trans e3.symm, e2.trans e4.symm⟩
          have hx16 : xs.length ≤ 1000000 := by rw [← EX.out]; omega
          clear s6
          go_wp2_with fail
          refine (rall_true (some ⟨w5.heap.size, 0, none⟩) (some ⟨g, 0, none⟩) _ _ _ cw xs ws _ KX.out KW.out EX.out EX.out EW.out EQ.out hx16).mono ?_
          rintro e w7 ⟨rfl, b7⟩
          go_wp2
          go_ret
          exact ⟨rfl, S6.out.below.trans (b7.mono S6.out.below.size)⟩
      all_goals
        rcases hex with h3 | ⟨h3, h4⟩
        all_goals
          go_wp2_with fail
          refine (tget_out _ _ t ar cr ks id _ HS.out.tb (by omega)).mono ?_
          rintro e w3 ⟨rfl, b3⟩
          obtain ⟨D, hD⟩ : ∃ D, w3.alloc (.cells #[.int .i64 0, .slice none 0 0] 24) = D := ⟨_, rfl⟩
          have b4 : Below w3.heap.size w3 D := by rw [← hD]; exact box_below w3 0 none 0 0
          have S4 : Hid (Kt w D ls t ar cr ks aw cw ws) := (HS.out.keep b3).keep b4
          have HD : Hid (w3.alloc (.cells #[.int .i64 0, .slice none 0 0] 24) = D) := hD
          clear b3 b4 hD
          go_wp2_with fail
          rw [HD.out]
          refine (ksame_true 0 none none _ _ 0 0 [] _ (IsI.nil _ _) (IsI.nil _ _) rfl rfl (Nat.zero_le _)).mono ?_
          rintro e w5 ⟨rfl, b5⟩
          have SZ : Hid (Kt w w5 ls t ar cr ks aw cw ws) := S4.out.keep b5
          clear b5
          go_wp2_with fail
          refine (tlen_any _ _ t ar cr ks _ SZ.out.tb).mono ?_
          rintro e w5' ⟨rfl, rfl⟩
          have qL : ((ks.length : Int) == (ks.length : Int)) = true := beq_self_eq_true _
          go_wp2_with fail
          refine (tall_any _ _ t ar cr ks _ SZ.out.tb).mono ?_
          rintro e w6 ⟨xs, rfl, s6⟩
          have S6 : Hid (Kt w w6 ls t ar cr ks aw cw ws) := SZ.out.keep s6.below
          have KX : Hid (IsK w6 (some ⟨w5.heap.size, 0, none⟩) xs) := s6.isK SZ.out.tb.all (fun k hk => (SZ.out.tb.isI k hk).2.2)
          have KW : Hid (IsK w6 aw ws) := S6.out.want.isK (fun k hk => by
            have := HL.out.body k (S6.out.from' k hk)
            exact ⟨this.1.keep S6.out.below, this.2⟩)
          have EX : Hid (ks.length = xs.length) := s6.len.symm
          have EW : Hid (ws.length = xs.length) := S6.out.len.trans s6.len.symm
          have EQ : Hid (∀ j (h : j < xs.length) (h' : j < ws.length), xs[j].s = ws[j].s ∧ xs[j].l = ws[j].l) := fun j h h' => by
            have hj : j < ks.length := by rw [EX.out]; exact h
            obtain ⟨e1, e2, _⟩ := s6.done j hj h hj
            obtain ⟨e3, e4⟩ := S6.out.same j h' hj
            exact ⟨e1.trans e3.symm, e2.trans e4.symm⟩
          have hx16 : xs.length ≤ 1000000 := by rw [← EX.out]; omega
          clear s6
          go_wp2_with fail
          refine (rall_true (some ⟨w5.heap.size, 0, none⟩) aw _ _ _ cw xs ws _ KX.out KW.out EX.out EX.out EW.out EQ.out hx16).mono ?_
          rintro e w7 ⟨rfl, b7⟩
          go_wp2
          go_ret
          exact ⟨rfl, S6.out.below.trans (b7.mono S6.out.below.size)⟩
end Go.Proofs.Ytkcnanpojnbepaa
