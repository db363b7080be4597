/- The document's Same, of objects that read alike. -/
import Derived.Test.YtebmegghojiegaaDoorAxA
import Derived.BigQuiet
namespace Go.Proofs.YtebmegghojiegaaDoor
open Go.RowKit
set_option linter.unusedVariables false

/-- What can be seen of an object. -/
structure Ob where
  h : Nat
  k : Int
  b : List Int
  t : List Nat
/-- A slice of objects that can be read. -/
def RdO (w : World) (a : Option Addr) (os : List Ob) : Prop :=
  ∀ i (hi : i < os.length), ∃ g off ba bk ha hk, a = some ⟨g, off, none⟩ ∧ w.cell? ⟨g, off + i * 4, none⟩ = some (.int .u64 (os[i].h : Nat)) ∧ w.cell? ⟨g, off + i * 4 + 1, none⟩ = some (.int .i64 os[i].k) ∧ w.cell? ⟨g, off + i * 4 + 2, none⟩ = some (.slice ba os[i].b.length bk) ∧ w.cell? ⟨g, off + i * 4 + 3, none⟩ = some (.slice ha os[i].t.length hk) ∧ IsB w ba os[i].b ∧ IsH w ha os[i].t ∧ os[i].t.length ≤ 9223372036854775807
theorem RdO.keep {w w' : World} {a : Option Addr} {os : List Ob} (h : RdO w a os) (hb : Below w.heap.size w w') : RdO w' a os := fun i hi => by
  obtain ⟨g, off, ba, bk, ha, hk, e, c0, c1, c2, c3, hB, hH, hl⟩ := h i hi
  exact ⟨g, off, ba, bk, ha, hk, e, bcell hb c0, bcell hb c1, bcell hb c2, bcell hb c3, hB.keep hb, hH.keep hb, hl⟩
set_option maxRecDepth 20000 in
set_option maxHeartbeats 4000000 in
theorem asame_true (a a' : Option Addr) (n c n' c' : Nat) (os : List Ob) (w : World) (h : RdO w a os) (h' : RdO w a' os) (hn : os.length = n) (hn' : os.length = n') (hl : os.length ≤ 9000000000000000000) :
    Calls Tryd.prog 15 #[.slice a n c, .slice a' n' c'] w fun e w' => e = .returned (.bool true) ∧ Below w.heap.size w w' := by
  subst hn'
  subst hn
  have H : Hid (RdO w a os) := h
  have H' : Hid (RdO w a' os) := h'
  clear h h'
  go_enter Tryd.func15, Tryd.ntmps15
  go_wp2
  go_loopw [13] (fun jv wy => ∃ j : Nat, j ≤ os.length ∧ jv = .int .i64 (j : Nat) ∧ Below w.heap.size w wy) (fun jv _ => os.length - lenW jv)
  case atStart => exact ⟨0, Nat.zero_le _, rfl, Below.refl _ _⟩
  case round =>
    obtain ⟨j, hj, rfl, hB⟩ := hrel
    rename World => wy
    have HB : Hid (Below w.heap.size w wy) := hB
    by_cases hjl : j < os.length
    · obtain ⟨g, off, ba, bk, ha, hk, rfl, q0, q1, q2, q3, i1, l1, z1⟩ := (H.out.keep hB) j hjl
      obtain ⟨g', off', ba', bk', ha', hk', rfl, r0, r1, r2, r3, i2, l2, z2⟩ := (H'.out.keep hB) j hjl
      obtain ⟨x, hx⟩ : ∃ x, os[j] = x := ⟨_, rfl⟩
      rw [hx] at q0 q1 q2 q3 r0 r1 r2 r3 i1 i2 l1 l2 z1
      obtain ⟨xh, xk, xb, xt⟩ := x
      simp only at q0 q1 q2 q3 r0 r1 r2 r3 i1 i2 l1 l2 z1
      have CS : Hid (∀ m, Calls Tryd.prog 38 #[.slice ba xb.length bk, .slice ba' xb.length bk'] (wy.drewN m) fun e w' => e = .returned (.bool true) ∧ ∃ n, w' = wy.drewN n) := fun m =>
        (same_any ba ba' _ _ bk bk' xb xb _ (i1.drewN m) (i2.drewN m) rfl rfl).mono (by rintro e w' ⟨rfl, rfl⟩; exact ⟨by simp, m, rfl⟩)
      have CH : Hid (∀ m, Calls Tryd.prog 40 #[.slice ha xt.length hk, .slice ha' xt.length hk'] (wy.drewN m) fun e w' => e = .returned (.bool true) ∧ ∃ n, w' = wy.drewN n) := fun m =>
        Calls.quiet_of (handles_true ha ha' hk hk' xt (wy.drewN m) l1 l2 z1)
      obtain ⟨nb, hnb⟩ : ∃ nb, xb.length = nb := ⟨_, rfl⟩
      obtain ⟨nt, hnt⟩ : ∃ nt, xt.length = nt := ⟨_, rfl⟩
      rw [hnb] at q2 r2 CS
      rw [hnt] at q3 r3 CH
      have e1 : (j : Int) < (os.length : Int) := by omega
      have e0 : (0 : Int) ≤ (j : Nat) := by omega
      clear hB hx i1 i2 l1 l2 z1 z2 hnb hnt
      go_wp2_with fail
      go_quiet ((first | (go_at_call 38; exact CS.out _) | (go_at_call 40; exact CH.out _)))
      go_wp2
      go_roundw
      case rel => exact ⟨j + 1, by omega, by congr 1, below_drewN HB.out _⟩
      case measure => simp [lenW]; omega
    · obtain rfl : j = os.length := by omega
      clear hB
      go_wp2
      go_ret
      exact ⟨rfl, HB.out⟩
end Go.Proofs.YtebmegghojiegaaDoor

/- The document's Lay: eight bytes of a number, at a place. -/
namespace Go.Proofs.YtebmegghojiegaaDoor
open Go.RowKit
set_option linter.unusedVariables false

/-- So many bytes have been laid. -/
def midR (l : List Int) (o : Nat) (bs : List Int) (i : Nat) : List Int := l.take o ++ bs.take i ++ l.drop (o + i)
theorem midR_len {l : List Int} {o : Nat} {bs : List Int} {i : Nat} (hi : i ≤ bs.length) (h : o + bs.length ≤ l.length) : (midR l o bs i).length = l.length := by
  unfold midR; simp; omega
theorem midR_zero (l : List Int) (o : Nat) (bs : List Int) : midR l o bs 0 = l := by simp [midR]
theorem midR_full (l : List Int) (o : Nat) (bs : List Int) : midR l o bs bs.length = overR l o bs := by simp [midR, overR]
theorem midR_set {l : List Int} {o : Nat} {bs : List Int} {i : Nat} (hi : i < bs.length) (h : o + bs.length ≤ l.length) : (midR l o bs i).set (o + i) (bs.getD i 0) = midR l o bs (i + 1) := by
  have e : l.drop (o + i) = l[o + i]'(by omega) :: l.drop (o + i + 1) := List.drop_eq_getElem_cons (by omega)
  have hl : (l.take o ++ bs.take i).length = o + i := by simp; omega
  unfold midR
  rw [e, List.set_append_right _ _ (by omega), hl, Nat.sub_self, List.set_cons_zero, List.take_succ_eq_append_getElem hi, ← Nat.add_assoc, List.getD_eq_getElem?_getD, List.getElem?_eq_getElem hi, Option.getD_some, List.append_assoc, List.append_assoc, List.append_assoc]
  rfl
theorem putL_len (k : Nat) : ∀ n, (putL k n).length = k := by
  induction k with
  | zero => intro n; rfl
  | succ k ih => intro n; simp [putL, ih]
set_option maxRecDepth 20000 in
set_option maxHeartbeats 4000000 in
theorem lay_any (g c n o : Nat) (l : List Int) (W : Int) (w : World) (h : RowB w g l) (hn : n = l.length) (ho : o + 8 ≤ n) (hm : n ≤ 1000000000) (h0 : 0 ≤ W) (h1 : W ≤ 18446744073709551615) :
    Calls Tryd.prog 20 #[.slice (some ⟨g, 0, none⟩) n c, .int .i64 (o : Nat), .int .u64 W] w fun e w' => e = .returned (.tuple #[]) ∧ RowB w' g (overR l o (putL 8 W)) ∧ Tg g w w' := by
  obtain ⟨P, hP⟩ : ∃ P, putL 8 W = P := ⟨_, rfl⟩
  have pl : P.length = 8 := by rw [← hP]; exact putL_len 8 W
  have PUT : Hid (∀ w : World, Calls Tryd.prog 46 #[.int .u64 W, .int .i64 8] w fun e w' => ∃ a cap, e = .returned (.slice a 8 cap) ∧ IsB w' a P ∧ (∀ ad, a = some ad → w.heap.size ≤ ad.block) ∧ Below w.heap.size w w') := fun w => by
    rw [← hP]; exact rput_is W 8 8 (by decide) (by omega) h0 h1 w
  have HR0 : Hid (RowB w g l) := h
  have HN : Hid (n = l.length) := hn
  have PL : Hid (P.length = 8) := pl
  have FIN : Hid (∀ wr, RowB wr g (midR l o P 8) → RowB wr g (overR l o P)) := fun wr hr => by rw [← pl, midR_full] at hr; exact hr
  have NX : Hid (∀ wr i, i < 8 → RowB wr g (midR l o P i) → RowB (wr.setCell ⟨g, o + i, none⟩ (.int .u8 (P.getD i 0))) g (midR l o P (i + 1))) := fun wr i hi hr => by
    have hr1 := hr.set (o + i) (P.getD i 0)
    rw [midR_set (by omega) (by omega)] at hr1
    exact hr1
  have ML : Hid (∀ i, i ≤ 8 → (midR l o P i).length = n) := fun i hi => by show _ = _; rw [midR_len (by omega) (by omega), hn]
  rw [hP]
  clear h hn pl hP
  go_enter Tryd.func20, Tryd.ntmps20
  go_wp2_with (go_at_call 46; refine (PUT.out _).mono ?_; rintro e w1 ⟨a, cap, rfl, ib, ab, bw⟩)
  have IB1 : Hid (IsB w1 a P) := ib
  have AB1 : Hid (∀ ad, a = some ad → ad.block ≠ g) := fun ad e => by have := ab ad e; have := HR0.out.lt; omega
  have BW1 : Hid (Below w.heap.size w w1) := bw
  clear ib ab bw
  go_loopw [11] (fun iv wr => ∃ i : Nat, i ≤ 8 ∧ iv = .int .i64 (i : Nat) ∧ RowB wr g (midR l o P i) ∧ Tg g w1 wr) (fun iv _ => 8 - (intOf iv).toNat)
  case atStart => exact ⟨0, Nat.zero_le _, rfl, by rw [midR_zero]; exact HR0.out.keep BW1.out, Tg.refl g w1⟩
  case round =>
    obtain ⟨i, hi, rfl, hr, ht⟩ := hrel
    rename World => wr
    have HR : Hid (RowB wr g (midR l o P i)) := hr
    have HT : Hid (Tg g w1 wr) := ht
    by_cases hlt : i < 8
    · have IB := ht.isB IB1.out AB1.out
      obtain ⟨hall, h0 | ⟨ba, off, rfl, hba, hc⟩⟩ := IB
      · have := PL.out; rw [h0] at this; simp at this
      · have cb := hc i (by have := PL.out; omega)
        have cg := hr.cell (o + i) (by rw [ML.out i hi]; omega)
        have zg := hr.thawed (o + i)
        obtain ⟨B, hBv⟩ : ∃ B, P.getD i 0 = B := ⟨_, rfl⟩
        have NX2 : Hid (RowB (wr.setCell ⟨g, o + i, none⟩ (.int .u8 B)) g (midR l o P (i + 1))) := by show RowB _ _ _; rw [← hBv]; exact NX.out wr i hlt hr
        rw [hBv] at cb
        have hlt' : (i : Int) < 8 := by omega
        have g2 : IntKind.i64.wrap ((o : Int) + (i : Int)) = (o : Int) + (i : Int) := by rw [IntKind.wrap_i64]; omega
        have g3 : (o : Int) + (i : Int) < (n : Int) := by omega
        have g4 : ((o : Int) + (i : Int)).toNat = o + i := by omega
        have g5 : (0 : Int) ≤ (o : Int) + (i : Int) := by omega
        clear hr ht hall hc hBv
        go_wp2
        all_goals go_roundw
        case rel => exact ⟨i + 1, by omega, by go_num, NX2.out, HT.out.trans (Tg.ofOnly (Only.set _ _ _ _))⟩
        case measure => simp [intOf]; omega
    · obtain rfl : i = 8 := by omega
      go_wp2
      go_end0
      exact ⟨rfl, FIN.out _ HR.out, (Tg.ofBelow BW1.out).trans HT.out⟩
end Go.Proofs.YtebmegghojiegaaDoor

/- The document's Equal, of two views that read alike. -/
namespace Go.Proofs.YtebmegghojiegaaDoor
open Go.RowKit
set_option linter.unusedVariables false

theorem RdK.isK {w : World} {a : Option Addr} {ks : List Kn} (h : RdK w a ks) : ∃ xs : List Kd, ∃ e : xs.length = ks.length, (∀ j (hj : j < xs.length), xs[j].s = (ks[j]'(by omega)).s ∧ xs[j].l = (ks[j]'(by omega)).l) ∧ IsK w a xs := by
  have h1 : ∀ i : Fin ks.length, ∃ p : Option Addr × Nat, ∃ g o : Nat, a = some ⟨g, o, none⟩ ∧ w.cell? ⟨g, o + i.1 * 2, none⟩ = some (.int .i64 ks[i.1].s) ∧ w.cell? ⟨g, o + i.1 * 2 + 1, none⟩ = some (.slice p.1 ks[i.1].l.length p.2) ∧ IsI w p.1 ks[i.1].l ∧ (p.1 = none → ks[i.1].l = [] ∧ p.2 = 0) ∧ ks[i.1].l.length ≤ maxLen := fun i => by
    obtain ⟨g, o, la, lc, r⟩ := h i.1 i.2
    exact ⟨(la, lc), g, o, r⟩
  obtain ⟨F, hF⟩ : ∃ F : Fin ks.length → Option Addr × Nat, ∀ i, ∃ g o : Nat, a = some ⟨g, o, none⟩ ∧ w.cell? ⟨g, o + i.1 * 2, none⟩ = some (.int .i64 ks[i.1].s) ∧ w.cell? ⟨g, o + i.1 * 2 + 1, none⟩ = some (.slice (F i).1 ks[i.1].l.length (F i).2) ∧ IsI w (F i).1 ks[i.1].l ∧ ((F i).1 = none → ks[i.1].l = [] ∧ (F i).2 = 0) ∧ ks[i.1].l.length ≤ maxLen := ⟨fun i => Classical.choose (h1 i), fun i => Classical.choose_spec (h1 i)⟩
  refine ⟨List.ofFn (fun i : Fin ks.length => (⟨ks[i.1].s, (F i).1, (F i).2, ks[i.1].l⟩ : Kd)), by simp, fun j hj => by simp, ?_, ?_⟩
  · by_cases hk : ks.length = 0
    · refine .inl (List.eq_nil_of_length_eq_zero ?_)
      simp only [List.length_ofFn]
      exact hk
    · obtain ⟨g, o, e, c0, _⟩ := hF ⟨0, by omega⟩
      refine .inr ⟨g, o, e, by simpa using block_lt_of_cell c0, fun i hi => ?_⟩
      obtain ⟨g', o', e', c0', c1', _⟩ := hF ⟨i, by simpa using hi⟩
      rw [e] at e'
      cases e'
      simp only [List.getElem_ofFn]
      exact ⟨c0', c1'⟩
  · intro k hk
    obtain ⟨i, rfl⟩ := (List.mem_ofFn).1 hk
    obtain ⟨g, o, e, c0, c1, hI, hn, hm⟩ := hF i
    exact ⟨hI, hn, hm⟩
theorem kall_rd (a a' : Option Addr) (n n' c c' : Nat) (ks : List Kn) (w : World) (h : RdK w a ks) (h' : RdK w a' ks) (hn : ks.length = n) (hn' : ks.length = n') (hl : ks.length ≤ 64) :
    Calls Tryd.prog 35 #[.slice a n c, .slice a' n' c'] w fun e w' => e = .returned (.bool true) ∧ Below w.heap.size w w' := by
  obtain ⟨xs, e, hx, ix⟩ := h.isK
  obtain ⟨ys, e', hy, iy⟩ := h'.isK
  exact rall_true a a' n n' c c' xs ys w ix iy (by omega) (by omega) (by omega) (fun j h1 h2 => ⟨(hx j h1).1.trans (hy j h2).1.symm, (hx j h1).2.trans (hy j h2).2.symm⟩) (by omega)
set_option maxRecDepth 20000 in
set_option maxHeartbeats 4000000 in
theorem equal_true (V : Vw) (A B : Va) (w : World) (h : Rv w V A) (h' : Rv w V B) :
    Calls Tryd.prog 13 #[.agg #[.int .i64 V.base, .int .i64 V.pgs, .slice A.ka A.kn A.kc, .slice A.ra A.rn A.rc, .slice A.sa A.sn A.sc, .slice A.ba A.bn A.bc], .agg #[.int .i64 V.base, .int .i64 V.pgs, .slice B.ka B.kn B.kc, .slice B.ra B.rn B.rc, .slice B.sa B.sn B.sc, .slice B.ba B.bn B.bc]] w fun e w' => e = .returned (.bool true) ∧ Below w.heap.size w w' := by
  obtain ⟨base, pgs, ks, rs, ts, bs⟩ := V
  obtain ⟨ka, ra, sa, ba, kn, rn, sn, bn, kc, rc, sc, bc⟩ := A
  obtain ⟨ka', ra', sa', ba', kn', rn', sn', bn', kc', rc', sc', bc'⟩ := B
  obtain ⟨E, hE, bE, rE⟩ := vbox w ⟨base, pgs, ks, rs, ts, bs⟩ ⟨ka, ra, sa, ba, kn, rn, sn, bn, kc, rc, sc, bc⟩
  obtain ⟨F, hF, bF, rF⟩ := vbox E ⟨base, pgs, ks, rs, ts, bs⟩ ⟨ka', ra', sa', ba', kn', rn', sn', bn', kc', rc', sc', bc'⟩
  simp only at hE rE hF rF
  have rE' : F.heap[w.heap.size]? = _ := (bF.block _ (hlt rE)).trans rE
  obtain ⟨na, hna⟩ : ∃ na, w.heap.size = na := ⟨_, rfl⟩
  obtain ⟨nb, hnb⟩ : ∃ nb, E.heap.size = nb := ⟨_, rfl⟩
  rw [hna] at rE'
  rw [hnb] at rF
  have bwF : Below w.heap.size w F := bE.trans (bF.mono bE.size)
  have RE : Hid (F.heap[na]? = some (.cells #[.int .i64 base, .int .i64 pgs, .slice ka kn kc, .slice ra rn rc, .slice sa sn sc, .slice ba bn bc] 27 (0, 0))) := rE'
  have RF : Hid (F.heap[nb]? = some (.cells #[.int .i64 base, .int .i64 pgs, .slice ka' kn' kc', .slice ra' rn' rc', .slice sa' sn' sc', .slice ba' bn' bc'] 27 (0, 0))) := rF
  have BW : Hid (Below w.heap.size w F) := bwF
  have HA : Hid (Rv F ⟨base, pgs, ks, rs, ts, bs⟩ ⟨ka, ra, sa, ba, kn, rn, sn, bn, kc, rc, sc, bc⟩) := h.keep bwF
  have HB : Hid (Rv F ⟨base, pgs, ks, rs, ts, bs⟩ ⟨ka', ra', sa', ba', kn', rn', sn', bn', kc', rc', sc', bc'⟩) := h'.keep bwF
  have a0 : F.cell? ⟨na, 0, none⟩ = some (.int .i64 base) := cell_of_row _ _ 0 _ _ _ rE'
  have a1 : F.cell? ⟨na, 1, none⟩ = some (.int .i64 pgs) := cell_of_row _ _ 1 _ _ _ rE'
  have a2 : F.cell? ⟨na, 2, none⟩ = some (.slice ka kn kc) := cell_of_row _ _ 2 _ _ _ rE'
  have b0 : F.cell? ⟨nb, 0, none⟩ = some (.int .i64 base) := cell_of_row _ _ 0 _ _ _ rF
  have b1 : F.cell? ⟨nb, 1, none⟩ = some (.int .i64 pgs) := cell_of_row _ _ 1 _ _ _ rF
  have b2 : F.cell? ⟨nb, 2, none⟩ = some (.slice ka' kn' kc') := cell_of_row _ _ 2 _ _ _ rF
  have K : Hid (Calls Tryd.prog 35 #[.slice ka kn kc, .slice ka' kn' kc'] F fun e w' => e = .returned (.bool true) ∧ Below F.heap.size F w') := kall_rd _ _ _ _ _ _ ks F HA.out.ks HB.out.ks HA.out.kl HB.out.kl HA.out.kz
  have R : Hid (∀ G : World, Below F.heap.size F G → Calls Tryd.prog 36 #[.slice ra rn rc, .slice ra' rn' rc'] G fun e w' => e = .returned (.bool true) ∧ ∃ m, w' = G.drewN m) := fun G b => by
    have e1 : rs.length = rn := HA.out.rl
    have e2 : rs.length = rn' := HB.out.rl
    have e3 : rs.length ≤ 300 := HA.out.rz
    rw [← e1, ← e2]
    exact hsame_true ra ra' rc rc' rs G (HA.out.rs.keep b) (HB.out.rs.keep b) (by omega)
  have T : Hid (∀ G : World, Below F.heap.size F G → Calls Tryd.prog 37 #[.slice sa sn sc, .slice sa' sn' sc'] G fun e w' => e = .returned (.bool true) ∧ Below G.heap.size G w') := fun G b =>
    rall_rd sa sa' sn sc sn' sc' ts G (HA.out.ts.keep b) (HB.out.ts.keep b) HA.out.sl HB.out.sl (by have : ts.length ≤ 64 := HA.out.tz; omega)
  have S : Hid (∀ G : World, Below F.heap.size F G → Calls Tryd.prog 38 #[.slice ba bn bc, .slice ba' bn' bc'] G fun e w' => e = .returned (.bool true) ∧ G = w') := fun G b =>
    (same_any ba ba' bn bn' bc bc' bs bs G (HA.out.bs.keep b) (HB.out.bs.keep b) HA.out.bl.symm HB.out.bl.symm).mono (by rintro e w' ⟨rfl, rfl⟩; exact ⟨by simp, rfl⟩)
  clear h h' rE rF rE' bE bF bwF
  go_enter Tryd.func13, Tryd.ntmps13
  go_wp2_with fail
  refine K.out.mono ?_
  rintro e w1 ⟨rfl, B1⟩
  have B1' : Hid (Below F.heap.size F w1) := B1
  have a3 : w1.cell? ⟨na, 3, none⟩ = some (.slice ra rn rc) := bcell B1 (cell_of_row _ _ 3 _ _ _ RE.out)
  have b3 : w1.cell? ⟨nb, 3, none⟩ = some (.slice ra' rn' rc') := bcell B1 (cell_of_row _ _ 3 _ _ _ RF.out)
  clear B1 a0 a1 a2 b0 b1 b2
  go_wp2_with fail
  refine (R.out _ B1'.out).mono ?_
  rintro e w2 ⟨rfl, m, hw2⟩
  have B2' : Hid (Below F.heap.size F w2) := by show Below _ _ _; rw [hw2]; exact below_drewN B1'.out _
  have a4 : w2.cell? ⟨na, 4, none⟩ = some (.slice sa sn sc) := bcell B2'.out (cell_of_row _ _ 4 _ _ _ RE.out)
  have b4 : w2.cell? ⟨nb, 4, none⟩ = some (.slice sa' sn' sc') := bcell B2'.out (cell_of_row _ _ 4 _ _ _ RF.out)
  clear hw2 a3 b3
  go_wp2_with fail
  refine (T.out _ B2'.out).mono ?_
  rintro e w3 ⟨rfl, B3⟩
  have B3' : Hid (Below F.heap.size F w3) := B2'.out.trans (B3.mono B2'.out.size)
  have a5 : w3.cell? ⟨na, 5, none⟩ = some (.slice ba bn bc) := bcell B3'.out (cell_of_row _ _ 5 _ _ _ RE.out)
  have b5 : w3.cell? ⟨nb, 5, none⟩ = some (.slice ba' bn' bc') := bcell B3'.out (cell_of_row _ _ 5 _ _ _ RF.out)
  clear B3 a4 b4
  go_wp2_with fail
  refine (S.out _ B3'.out).mono ?_
  rintro e w4 ⟨rfl, rfl⟩
  have BB := BW.out.trans (B3'.out.mono BW.out.size)
  go_wp2
  go_ret
  exact ⟨rfl, by first | exact BB | exact hna ▸ BB⟩
end Go.Proofs.YtebmegghojiegaaDoor

/- The document's Great: is a view more than is looked at? -/
namespace Go.Proofs.YtebmegghojiegaaDoor
open Go.RowKit
set_option linter.unusedVariables false

/-- A view that can be read, however great it is. -/
structure Rv0 (w : World) (V : Vw) (A : Va) : Prop where
  kl : V.ks.length = A.kn
  rl : V.rs.length = A.rn
  sl : V.ts.length = A.sn
  bl : V.bs.length = A.bn
  ks : RdK w A.ka V.ks
  rs : IsW w A.ra V.rs
  ts : RdT w A.sa V.ts
  bs : IsB w A.ba V.bs
  bi : i64 V.base
  pi : i64 V.pgs
  ti : ∀ t ∈ V.ts, i64 t.p
  ri : ∀ r ∈ V.rs, i64 r.pl ∧ i64 r.kind ∧ i64 r.gen
  sk : A.sn ≤ A.sc ∧ A.sc ≤ 9223372036854775807
  bk : A.bn ≤ A.bc ∧ A.bc ≤ 9223372036854775807
def SmallV (V : Vw) : Prop := V.pgs ≤ 64 ∧ V.ks.length ≤ 64 ∧ V.rs.length ≤ 300 ∧ V.ts.length ≤ 64 ∧ V.bs.length ≤ 16384
theorem Rv0.small {w : World} {V : Vw} {A : Va} (h : Rv0 w V A) (s : SmallV V) : Rv w V A := ⟨h.kl, h.rl, h.sl, h.bl, h.ks, h.rs, h.ts, h.bs, h.bi, h.pi, h.ti, h.ri, s.2.1, s.2.2.1, s.2.2.2.1, s.2.2.2.2, h.sk, h.bk⟩
theorem Rv0.keep {w w' : World} {V : Vw} {A : Va} (h : Rv0 w V A) (hb : Below w.heap.size w w') : Rv0 w' V A :=
  ⟨h.kl, h.rl, h.sl, h.bl, h.ks.keep hb, h.rs.keep hb, h.ts.keep hb, h.bs.keep hb, h.bi, h.pi, h.ti, h.ri, h.sk, h.bk⟩
def GreatP (w : World) (V : Vw) (e : Ending) (w' : World) : Prop := ∃ r, e = .returned (.bool r) ∧ (r = false → SmallV V) ∧ Below w.heap.size w w'
set_option maxRecDepth 20000 in
set_option maxHeartbeats 4000000 in
theorem great_any (V : Vw) (A : Va) (w : World) (h : Rv0 w V A) :
    Calls Tryd.prog 9 #[.agg #[.int .i64 V.base, .int .i64 V.pgs, .slice A.ka A.kn A.kc, .slice A.ra A.rn A.rc, .slice A.sa A.sn A.sc, .slice A.ba A.bn A.bc]] w fun e w' => GreatP w V e w' := by
  obtain ⟨base, pgs, ks, rs, ts, bs⟩ := V
  obtain ⟨ka, ra, sa, ba, kn, rn, sn, bn, kc, rc, sc, bc⟩ := A
  obtain ⟨E, hE, bE, rE⟩ := vbox w ⟨base, pgs, ks, rs, ts, bs⟩ ⟨ka, ra, sa, ba, kn, rn, sn, bn, kc, rc, sc, bc⟩
  simp only at hE rE
  obtain ⟨nb, hnb⟩ : ∃ nb, w.heap.size = nb := ⟨_, rfl⟩
  rw [hnb] at rE
  have d4 : E.cell? ⟨nb, 4, none⟩ = some (.slice sa sn sc) := cell_of_row _ _ 4 _ _ _ rE
  have HBE : Hid (Below w.heap.size w E) := bE
  have RE : Hid (E.heap[nb]? = some (.cells #[.int .i64 base, .int .i64 pgs, .slice ka kn kc, .slice ra rn rc, .slice sa sn sc, .slice ba bn bc] 27 (0, 0))) := rE
  have HTS : Hid (RdT E sa ts) := h.ts.keep bE
  have HLN : Hid (ks.length = kn ∧ rs.length = rn ∧ ts.length = sn ∧ bs.length = bn) := ⟨h.kl, h.rl, h.sl, h.bl⟩
  have sk : sn ≤ sc ∧ sc ≤ 9223372036854775807 := h.sk
  have s9 : sn ≤ 9223372036854775807 := by omega
  clear h rE bE sk
  go_enter Tryd.func9, Tryd.ntmps9
  go_wp2_with fail
  go_loopw [3, 9] (fun nv iv wz => ∃ (k : Nat) (y : Int), k ≤ sn ∧ iv = .int .i64 (k : Nat) ∧ nv = .int .i64 y ∧ Below E.heap.size E wz) (fun _ iv _ => sn - lenW iv)
  case atStart => exact ⟨0, 0, Nat.zero_le _, rfl, rfl, by first | exact Below.refl _ _ | (rw [← hE]; exact Below.refl _ _)⟩
  case round =>
    obtain ⟨k, y, hk, rfl, rfl, hb⟩ := hrel
    rename World => wz
    have BZ : Hid (Below E.heap.size E wz) := hb
    have FB : Hid (∀ w', Below wz.heap.size wz w' → Below E.heap.size E w' ∧ Below w.heap.size w w') := fun w' b' => by
      have b2 := BZ.out.trans (b'.mono BZ.out.size)
      exact ⟨b2, HBE.out.trans (b2.mono HBE.out.size)⟩
    clear hb
    by_cases hkn : k < sn
    · have hkl : k < ts.length := by rw [HLN.out.2.2.1]; exact hkn
      obtain ⟨g, off, la, lk, rfl, q0, q1, q2, q3, _, _⟩ := (HTS.out.keep BZ.out) k hkl
      obtain ⟨t, ht⟩ : ∃ t, ts[k] = t := ⟨_, rfl⟩
      rw [ht] at q0 q1 q2 q3
      obtain ⟨p, c, s, l⟩ := t
      simp only at q0 q1 q2 q3
      obtain ⟨ll, hll⟩ : ∃ ll, l.length = ll := ⟨_, rfl⟩
      rw [hll] at q3
      obtain ⟨D, hD⟩ : ∃ D, wz.alloc (.cells #[.int .i64 p, .int .i64 c, .int .i64 s, .slice la ll lk] 58) = D := ⟨_, rfl⟩
      have bD : Below wz.heap.size wz D := by rw [← hD]; exact (Below.refl _ wz).alloc (Nat.le_refl _) _
      have rD : D.heap[wz.heap.size]? = some (.cells #[.int .i64 p, .int .i64 c, .int .i64 s, .slice la ll lk] 58 (0, 0)) := by rw [← hD]; exact Go.heap_alloc_new wz _
      have BD := FB.out D bD
      have e3 : D.cell? ⟨wz.heap.size, 3, none⟩ = some (.slice la ll lk) := cell_of_row _ _ 3 _ _ _ rD
      have k0 : (k : Int) < (sn : Int) := by omega
      clear bD rD hll ht
      go_wp2
      go_roundw
      case rel => exact ⟨k + 1, _, by omega, by congr 1, rfl, BD.1⟩
      case measure => simp [lenW]; omega
    · obtain rfl : k = sn := by omega
      have vb : wz.heap[nb]? = _ := (BZ.out.block nb (hlt RE.out)).trans RE.out
      have v1 : wz.cell? ⟨nb, 1, none⟩ = some (.int .i64 pgs) := cell_of_row _ _ 1 _ _ _ vb
      have v2 : wz.cell? ⟨nb, 2, none⟩ = some (.slice ka kn kc) := cell_of_row _ _ 2 _ _ _ vb
      have v3 : wz.cell? ⟨nb, 3, none⟩ = some (.slice ra rn rc) := cell_of_row _ _ 3 _ _ _ vb
      have v4 : wz.cell? ⟨nb, 4, none⟩ = some (.slice sa k sc) := cell_of_row _ _ 4 _ _ _ vb
      have v5 : wz.cell? ⟨nb, 5, none⟩ = some (.slice ba bn bc) := cell_of_row _ _ 5 _ _ _ vb
      have BB := (FB.out wz (Below.refl _ _)).2
      clear vb
      have DONE : Hid (¬ (64 < pgs) → ¬ (64 < (kn : Int)) → ¬ (300 < (rn : Int)) → ¬ (64 < (k : Int)) → ¬ (16384 < (bn : Int)) → SmallV ⟨base, pgs, ks, rs, ts, bs⟩) := fun a1 a2 a3 a4 a5 => by
        obtain ⟨h1, h2, h3, h4⟩ := HLN.out
        refine ⟨?_, ?_, ?_, ?_, ?_⟩ <;> simp only <;> omega
      by_cases a1 : 64 < pgs
      · go_wp2
        go_ret
        exact ⟨true, rfl, (fun e => by cases e), by first | exact BB | exact hnb ▸ BB⟩
      · by_cases a2 : 64 < (kn : Int)
        · go_wp2
          go_ret
          exact ⟨true, rfl, (fun e => by cases e), by first | exact BB | exact hnb ▸ BB⟩
        · by_cases a3 : 300 < (rn : Int)
          · go_wp2
            go_ret
            exact ⟨true, rfl, (fun e => by cases e), by first | exact BB | exact hnb ▸ BB⟩
          · by_cases a4 : 64 < (k : Int)
            · go_wp2
              go_ret
              exact ⟨true, rfl, (fun e => by cases e), by first | exact BB | exact hnb ▸ BB⟩
            · by_cases a6 : 600 < y
              · go_wp2
                go_ret
                exact ⟨true, rfl, (fun e => by cases e), by first | exact BB | exact hnb ▸ BB⟩
              · by_cases a5 : 16384 < (bn : Int)
                · go_wp2
                  go_ret
                  exact ⟨true, rfl, (fun e => by cases e), by first | exact BB | exact hnb ▸ BB⟩
                · have DD := DONE.out a1 a2 a3 a4 a5
                  go_wp2
                  go_ret
                  exact ⟨false, rfl, (fun _ => DD), by first | exact BB | exact hnb ▸ BB⟩
end Go.Proofs.YtebmegghojiegaaDoor
