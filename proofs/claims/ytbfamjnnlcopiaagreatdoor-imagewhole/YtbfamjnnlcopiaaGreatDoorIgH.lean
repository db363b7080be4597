/- Layer 17: readSpan of the code. -/
import Derived.Test.YtbfamjnnlcopiaaGreatDoorGzAS
import Derived.Test.YtbfamjnnlcopiaaGreatDoorGzAF
import Derived.Test.YtbfamjnnlcopiaaGreatDoorGzAU
import Derived.Test.YtbfamjnnlcopiaaGreatDoorGzAV
namespace Go.Proofs.YtbfamjnnlcopiaaGreatDoor
open Go.RowKit
set_option linter.unusedVariables false
set_option maxRecDepth 4000

theorem Tabs.tg {B : Nat} {w w' : World} (h : Tabs w) (t : Tg B w w') (hB : 2 ≤ B) : Tabs w' :=
  ⟨⟨Nat.lt_of_lt_of_le h.1.1 t.size, fun j hj => t.cell (h.1.2 j hj) (by omega)⟩, ⟨Nat.lt_of_lt_of_le h.2.1 t.size, fun j hj => t.cell (h.2.2 j hj) (by omega)⟩⟩
theorem IsI.tgG {g : Nat} {w w' : World} {a : Option Addr} {l : List Int} (k : IsI w a l) (h : Tg g w w') (hn : ∀ ad, a = some ad → ad.block ≠ g) : IsI w' a l := by
  obtain ⟨h1, h2 | ⟨b, off, rfl, h3, h4⟩⟩ := k
  · exact ⟨h1, .inl h2⟩
  · exact ⟨h1, .inr ⟨b, off, rfl, Nat.lt_of_lt_of_le h3 h.size, fun i hi => h.cell (h4 i hi) (hn _ rfl)⟩⟩
/-- What a number that is read is like. -/
theorem up_gen {l r : List Int} {e most v x : Int} (hb : AllB l) (hm : 0 ≤ most) (h : upS l e most = (v, r, x)) : 0 ≤ v ∧ v ≤ most ∧ AllB r ∧ r.length ≤ l.length ∧ (e ≠ 0 → v = 0 ∧ r = l ∧ x = e) ∧ (e = 0 → x = 0 ∨ x = 3 ∨ x = 4) := by
  by_cases he : e = 0
  · subst he
    rcases up_cases l most hb with ⟨n, r', hu, n0, n1, hl⟩ | ⟨e', hu, he'⟩
    · rw [hu] at h
      simp only [Prod.mk.injEq] at h
      obtain ⟨rfl, rfl, rfl⟩ := h
      refine ⟨n0, n1, by rw [hl] at hb; exact hb.right, by rw [hl, List.length_append]; omega, fun q => absurd rfl q, fun _ => .inl rfl⟩
    · rw [hu] at h
      simp only [Prod.mk.injEq] at h
      obtain ⟨rfl, rfl, rfl⟩ := h
      exact ⟨by omega, hm, hb, Nat.le_refl _, fun q => absurd rfl q, fun _ => .inr he'⟩
  · rw [upS, if_neg he] at h
    simp only [Prod.mk.injEq] at h
    obtain ⟨rfl, rfl, rfl⟩ := h
    exact ⟨by omega, hm, hb, Nat.le_refl _, fun _ => ⟨rfl, rfl, rfl⟩, fun q => absurd q he⟩
theorem read_up {l L1 L2 L3 : List Int} {P E1 C E2 S E3 : Int} (hb : AllB l) (h1 : upS l 0 4095 = (P, L1, E1)) (h2 : upS L1 E1 7 = (C, L2, E2)) (h3 : upS L2 E2 4096 = (S, L3, E3)) :
    (0 ≤ P ∧ P ≤ 4095) ∧ (0 ≤ C ∧ C ≤ 7) ∧ (0 ≤ S ∧ S ≤ 4096) ∧ AllB L3 ∧ L3.length ≤ l.length ∧ (E3 = 0 → readG l = if newE P C S = 0 then setG P C S L3 else badG 4) ∧ (E3 ≠ 0 → readG l = badG E3) := by
  obtain ⟨a1, a2, a3, a4, a5, a6⟩ := up_gen hb (by omega) h1
  obtain ⟨b1, b2, b3, b4, b5, b6⟩ := up_gen a3 (by omega) h2
  obtain ⟨c1, c2, c3, c4, c5, c6⟩ := up_gen b3 (by omega) h3
  refine ⟨⟨a1, a2⟩, ⟨b1, b2⟩, ⟨c1, c2⟩, c3, by omega, fun e => ?_, fun e => ?_⟩
  · have e2 : E2 = 0 := Decidable.byContradiction fun q => q ((c5 q).2.2.symm.trans e)
    have e1 : E1 = 0 := Decidable.byContradiction fun q => q ((b5 q).2.2.symm.trans e2)
    subst e e1 e2
    unfold readG
    rw [bindU_ok h1, bindU_ok h2, bindU_ok h3]
  · unfold readG
    by_cases e1 : E1 = 0
    · subst e1
      rw [bindU_ok h1]
      by_cases e2 : E2 = 0
      · subst e2
        rw [bindU_ok h2, bindU_bad h3 e]
      · have := (c5 e2).2.2
        rw [bindU_bad h2 e2, this]
    · have q2 := (b5 e1).2.2
      have q3 := (c5 (by rw [q2]; exact e1)).2.2
      rw [bindU_bad h1 e1, q3, q2]

theorem SetAt.tg {w w' : World} {b g n B : Nat} {f : Nat → Bool} (h : SetAt w b g n f) (t : Tg B w w') (h1 : b ≠ B) (h2 : g ≠ B) : SetAt w' b g n f where
  len := t.cell h.len h1
  words := t.cell h.words h1
  word := fun j hj => t.cell (h.word j hj) h2
  thawed := fun j => (World.frozen?_of_block (a := ⟨g, j, none⟩) (t.block g h.hg h2)).trans (h.thawed j)
  few := h.few
  within := h.within
  hb := Nat.lt_of_lt_of_le h.hb t.size
  hg := Nat.lt_of_lt_of_le h.hg t.size
  apart := h.apart
/-- What is left of readSpan where its result is laid. -/
theorem lay_span {w w7 : World} {B : Nat} {p c s : Int} {v : Value} (t : Tg B w w7) (r : w7.heap[w.heap.size]? = some (.cells (dcells 0 0 0 none 0 0) 33 (0, 0))) : Tg B w (lay4 w7 w.heap.size p c s v) ∧ (∀ l e, B < w.heap.size → RdAt w7 B l e → RdAt (lay4 w7 w.heap.size p c s v) B l e) :=
  ⟨Tg.below2 t (lay4_below (Below.refl _ _) (Nat.le_refl _)) (Nat.le_refl _), fun l e hB h => h.below (lay4_below (Below.refl _ _) (Nat.le_refl _)) hB⟩
theorem IsI.lay4 {w7 : World} {g : Nat} {p c s : Int} {v : Value} {a : Option Addr} {l : List Int} (h : IsI w7 a l) (hn : ∀ ad, a = some ad → ad.block ≠ g) : IsI (lay4 w7 g p c s v) a l :=
  h.tgG (((Tg.ofOnly (Only.set g 0 _ _)).trans (Tg.ofOnly (Only.set g 1 _ _))).trans ((Tg.ofOnly (Only.set g 2 _ _)).trans (Tg.ofOnly (Only.set g 3 _ _)))) hn
theorem failV_ne {e x : Int} (h : e ≠ 0) : failV e x = e := if_neg h
theorem failV_zero (x : Int) : failV 0 x = x := if_pos rfl

/-- What readSpan leaves behind. -/
def SpanR (w : World) (B : Nat) (l : List Int) (e : Ending) (w' : World) : Prop :=
  ∃ p c s a' k' live l' er, e = .returned (.agg #[.int .i64 p, .int .i64 c, .int .i64 s, .slice a' (List.length live) k']) ∧ IsI w' a' live ∧ (live = [] ∨ ∀ ad, a' = some ad → w.heap.size ≤ ad.block) ∧ live.length ≤ 16 ∧ i64' p ∧ RdAt w' B l' er ∧ l'.length ≤ l.length ∧ Tg B w w' ∧
    ((er = 0 ∧ spOk p c s live = true ∧ readG l = tailG p c s live l') ∨ (er ≠ 0 ∧ readG l = badG er))

set_option maxRecDepth 20000 in
set_option maxHeartbeats 4000000 in
theorem ispan_any (B : Nat) (l : List Int) (w : World) (h : RdAt w B l 0) (hT : Tabs w) (hB : 2 ≤ B) (hl : l.length ≤ 140737488355328) :
    Calls Tryz.prog 50 #[.pointer (some ⟨B, 0, none⟩)] w (SpanR w B l) := by
  rcases h1 : upS l 0 4095 with ⟨P, L1, E1⟩
  rcases h2 : upS L1 E1 7 with ⟨C, L2, E2⟩
  rcases h3 : upS L2 E2 4096 with ⟨S, L3, E3⟩
  obtain ⟨⟨p0, p1⟩, ⟨y0, y1⟩, ⟨s0, s1⟩, hA, hL, k1, k2⟩ := read_up h.allB h1 h2 h3
  obtain ⟨D, hD, zD, rD, bD⟩ := dbox w 0 0 0 none 0 0
  have HD : Hid (w.alloc (.cells #[.int .i64 0, .int .i64 0, .int .i64 0, .slice none 0 0] 33) = D) := hD
  have BD : Hid (Below w.heap.size w D) := bD
  have RD : Hid (D.heap[w.heap.size]? = some (.cells (dcells 0 0 0 none 0 0) 33 (0, 0))) := rD
  have ZD : Hid (D.heap.size = w.heap.size + 1) := zD
  have BW : B < w.heap.size := h.lt
  have RR : Hid (RdAt D B l 0) := rd_keep h bD
  have TD : Hid (Tabs D) := hT.keep bD
  have H1 : Hid (upS l 0 4095 = (P, L1, E1)) := h1
  have H2 : Hid (upS L1 E1 7 = (C, L2, E2)) := h2
  have H3 : Hid (upS L2 E2 4096 = (S, L3, E3)) := h3
  have K1 : Hid (E3 = 0 → readG l = if newE P C S = 0 then setG P C S L3 else badG 4) := k1
  have K2 : Hid (E3 ≠ 0 → readG l = badG E3) := k2
  have HA : Hid (AllB L3) := hA
  have HL : Hid (L3.length ≤ l.length) := hL
  have l3 : L3.length ≤ 140737488355328 := by omega
  have u1 : IntKind.i64.wrap P = P := by rw [IntKind.wrap_i64]; omega
  have u2 : IntKind.i64.wrap C = C := by rw [IntKind.wrap_i64]; omega
  have u3 : IntKind.i64.wrap S = S := by rw [IntKind.wrap_i64]; omega
  clear h hT hl h1 h2 h3 hA hL k1 k2 hD zD rD bD
  by_cases hx : newE P C S = 0
  · have HX : Hid (newE P C S = 0) := hx
    have RT : Hid (Rt P C S) := newE_rt hx
    obtain ⟨N, hN⟩ : ∃ N, slN C = N := ⟨_, rfl⟩
    have HN : Hid (slN C = N) := hN
    have n16 : N ≤ 16 := by have := RT.out.facts.2.1; omega
    have n1 : 1 ≤ N := by have := RT.out.facts.1; omega
    obtain ⟨K, hK⟩ : ∃ K, (N + 7) / 8 = K := ⟨_, rfl⟩
    have HK : Hid ((N + 7) / 8 = K) := hK
    have UK : Hid ((((N : Nat) : Int) + 8 - 1) / 8 = (K : Nat)) := by show _ = _; omega
    have kp : 1 ≤ K := by omega
    have k2 : K ≤ 2 := by omega
    clear hN hK hx
    rcases hS : bsS L3 E3 K with ⟨X, L4, E4⟩
    have HS : Hid (bsS L3 E3 K = (X, L4, E4)) := hS
    have CS : Hid ((X = [] ∧ L4 = L3 ∧ E4 ≠ 0 ∧ readG l = badG E4) ∨ (X = L3.take K ∧ L4 = L3.drop K ∧ E4 = 0 ∧ K ≤ L3.length ∧ readG l = setG P C S L3)) := by
      show _ ∨ _
      unfold bsS at hS
      by_cases h0 : E3 = 0
      · rw [if_pos h0] at hS
        have kr := K1.out h0
        rw [if_pos HX.out] at kr
        by_cases hk : K ≤ L3.length
        · rw [if_pos hk] at hS
          simp only [Prod.mk.injEq] at hS
          exact .inr ⟨hS.1.symm, hS.2.1.symm, hS.2.2.symm, hk, kr⟩
        · rw [if_neg hk] at hS
          simp only [Prod.mk.injEq] at hS
          refine .inl ⟨hS.1.symm, hS.2.1.symm, by omega, ?_⟩
          rw [kr, ← hS.2.2]
          exact set_short (by rw [HN.out, HK.out]; omega)
      · rw [if_neg h0] at hS
        simp only [Prod.mk.injEq] at hS
        exact .inl ⟨hS.1.symm, hS.2.1.symm, by rw [← hS.2.2]; exact h0, by rw [← hS.2.2]; exact K2.out h0⟩
    clear hS
    go_enter Tryz.func50, Tryz.ntmps50
    go_upto_region 1 with (fail)
    rw [HD.out]
    go_wp2_with fail
    refine (upto_any B l 0 4095 _ RR.out).mono ?_
    rw [H1.out]
    rintro e w1 ⟨rfl, r1, g1⟩
    have R1 : Hid (RdAt w1 B L1 E1) := r1
    have T1 : Hid (Tg B D w1) := Tg.ofGrown g1
    clear r1 g1
    go_wp2_with fail
    refine (upto_any B L1 E1 7 _ R1.out).mono ?_
    rw [H2.out]
    rintro e w2 ⟨rfl, r2, g2⟩
    have R2 : Hid (RdAt w2 B L2 E2) := r2
    have T2 : Hid (Tg B D w2) := T1.out.trans (Tg.ofGrown g2)
    clear r2 g2
    go_wp2_with fail
    refine (upto_any B L2 E2 4096 _ R2.out).mono ?_
    rw [H3.out]
    rintro e w3 ⟨rfl, r3, g3⟩
    have R3 : Hid (RdAt w3 B L3 E3) := r3
    have T3 : Hid (Tg B D w3) := T2.out.trans (Tg.ofGrown g3)
    clear r3 g3
    go_wp2_with fail
    refine (new_ok P C S _ (TD.out.tg T3.out hB) RT.out HX.out).mono ?_
    rintro e w4 ⟨sb, b, g, rfl, s4, b4, _, _, _⟩
    have S4 : Hid (SpanAt w4 sb b g P C S (fun _ => false)) := s4
    have T4 : Hid (Tg B D w4) := T3.out.trans (Tg.ofBelow b4)
    have R4 : Hid (RdAt w4 B L3 E3) := rd_keep R3.out b4
    clear s4 b4
    go_wp2_with fail
    refine (slots_rt sb P C S _ S4.out.box (TD.out.tg T4.out hB).1 RT.out N HN.out).mono ?_
    rintro e w' ⟨rfl, rfl⟩
    go_wp2_with fail
    refine (slots_rt sb P C S _ S4.out.box (TD.out.tg T4.out hB).1 RT.out N HN.out).mono ?_
    rintro e w' ⟨rfl, rfl⟩
    go_wp2_with fail
    rw [UK.out]
    refine (bytes_any B L3 E3 (K : Int) (K : Int) _ R4.out (.inr (.inr ⟨by omega, rfl⟩)) l3).mono ?_
    rw [Int.toNat_natCast, HS.out]
    rintro e w5 ⟨a5, k5, rfl, f5, r5, g5⟩
    have F5 : Hid (FreshB w5 w4.heap.size a5 X k5) := f5
    have R5 : Hid (RdAt w5 B L4 E4) := r5
    have T5 : Hid (Tg B D w5) := T4.out.trans (Tg.ofGrown g5)
    have Z5 : Hid (D.heap.size ≤ w5.heap.size) := T5.out.size
    clear f5 r5 g5
    rcases CS.out with ⟨rfl, h4, e4, kr⟩ | ⟨hX, h4, h5, hkl, kr⟩
    · rw [h4] at R5
      clear h4
      have KR : Hid (readG l = badG E4) := kr
      have FV : Hid (failV E4 3 = E4) := failV_ne e4
      have E4' : Hid (E4 ≠ 0) := e4
      clear kr e4
      go_wp2_with fail
      refine ((read_length N a5 k5 0 _ (by omega) (by unfold maxLen; omega)).1 (by have := HK.out; omega)).mono ?_
      unfold refV
      rintro e w' ⟨rfl, rfl⟩
      go_wp2_with fail
      refine (fail_any B L3 E4 3 _ R5.out).mono ?_
      rw [FV.out]
      rintro e w6 ⟨rfl, r6, g6⟩
      have R6 : Hid (RdAt w6 B L3 E4) := r6
      have T6 : Hid (Tg B D w6) := T5.out.trans (Tg.ofGrown g6)
      clear r6 g6
      go_wp2_with fail
      refine (list_nil _).mono ?_
      rintro e w7 ⟨a7, k7, rfl, b7⟩
      have R7 : Hid (RdAt w7 B L3 E4) := rd_keep R6.out b7
      have T7 : Hid (Tg B D w7) := T6.out.trans (Tg.ofBelow b7)
      have Q7 : Hid (w7.heap[w.heap.size]? = some (.cells (dcells 0 0 0 none 0 0) 33 (0, 0))) := by show _ = _; rw [T7.out.block w.heap.size (by have := ZD.out; omega) (by omega)]; exact RD.out
      have TW : Hid (Tg B w w7) := (Tg.ofBelow BD.out).trans T7.out
      have y0 := dcell0 Q7.out
      have y1 := dcell1 Q7.out
      have y2 := dcell2 Q7.out
      have y3 := dcell3 Q7.out
      have z0 := dthawed Q7.out 0
      have z1 := dthawed Q7.out 1
      have z2 := dthawed Q7.out 2
      have z3 := dthawed Q7.out 3
      obtain ⟨e0, e1, e2, e3⟩ := lay4_cells (p := P) (c := C) (s := S) (v := .slice a7 0 k7) Q7.out
      obtain ⟨t8, r8⟩ := lay_span (p := P) (c := C) (s := S) (v := .slice a7 0 k7) TW.out Q7.out
      have R8 : Hid (RdAt (lay4 w7 w.heap.size P C S (.slice a7 0 k7)) B L3 E4) := r8 _ _ BW R7.out
      have T8 : Hid (Tg B w (lay4 w7 w.heap.size P C S (.slice a7 0 k7))) := t8
      unfold lay4 at e0 e1 e2 e3
      clear b7 t8 r8
      go_wp2
      refine bodyPost_ret (v := .agg #[.int .i64 P, .int .i64 C, .int .i64 S, .slice a7 0 k7]) (by simp [results, Tryz.results50, go_sem, e0, e1, e2, e3]) rfl ⟨P, C, S, a7, k7, [], L3, E4, rfl, IsI.nil _ _, .inl rfl, by simp, ⟨by omega, by omega⟩, R8.out, HL.out, T8.out, .inr ⟨E4'.out, KR.out⟩⟩
    · rw [h4, h5] at R5
      clear h4 h5
      have XL : Hid (X.length = K) := by show _ = _; rw [hX, List.length_take]; omega
      have AX : Hid (AllB X) := by show AllB _; rw [hX]; exact HA.out.take _
      have IX : Hid (IsL w5 .u8 a5 X) := by
        show IsL _ _ _ _
        rcases F5.out with ⟨q, _⟩ | ⟨g, rfl, _, q⟩
        · rw [q] at XL; have := XL.out; simp at this; omega
        · exact (ownsB_isB AX.out q).2
      have KR : Hid (readG l = setG P C S L3) := kr
      have HXE : Hid (X = L3.take K) := hX
      have KL : Hid (K ≤ L3.length) := hkl
      clear kr hX hkl
      go_wp2_with fail
      refine (read_any N a5 k5 X _ (by omega) AX.out IX.out (by rw [XL.out, HK.out])).mono ?_
      unfold refV
      rintro e w6 (⟨rfl, rfl, i, hi, hin⟩ | ⟨rfl, s6, b6⟩)
      · have KR2 : Hid (readG l = badG 4) := by
          show _ = _
          rw [KR.out]
          refine set_form (by rw [HN.out, HK.out]; exact KL.out) ?_
          rw [HN.out, HK.out, ← HXE.out]
          exact bitsOk_no hi hin
        clear hi hin
        go_wp2_with fail
        refine (fail_any B (L3.drop K) 0 4 _ R5.out).mono ?_
        rw [failV_zero]
        rintro e w6 ⟨rfl, r6, g6⟩
        have R6 : Hid (RdAt w6 B (L3.drop K) 4) := r6
        have T6 : Hid (Tg B D w6) := T5.out.trans (Tg.ofGrown g6)
        clear r6 g6
        go_wp2_with fail
        refine (list_nil _).mono ?_
        rintro e w7 ⟨a7, k7, rfl, b7⟩
        have R7 : Hid (RdAt w7 B (L3.drop K) 4) := rd_keep R6.out b7
        have T7 : Hid (Tg B D w7) := T6.out.trans (Tg.ofBelow b7)
        have Q7 : Hid (w7.heap[w.heap.size]? = some (.cells (dcells 0 0 0 none 0 0) 33 (0, 0))) := by show _ = _; rw [T7.out.block w.heap.size (by have := ZD.out; omega) (by omega)]; exact RD.out
        have TW : Hid (Tg B w w7) := (Tg.ofBelow BD.out).trans T7.out
        have y0 := dcell0 Q7.out
        have y1 := dcell1 Q7.out
        have y2 := dcell2 Q7.out
        have y3 := dcell3 Q7.out
        have z0 := dthawed Q7.out 0
        have z1 := dthawed Q7.out 1
        have z2 := dthawed Q7.out 2
        have z3 := dthawed Q7.out 3
        obtain ⟨e0, e1, e2, e3⟩ := lay4_cells (p := P) (c := C) (s := S) (v := .slice a7 0 k7) Q7.out
        obtain ⟨t8, r8⟩ := lay_span (p := P) (c := C) (s := S) (v := .slice a7 0 k7) TW.out Q7.out
        have R8 : Hid (RdAt (lay4 w7 w.heap.size P C S (.slice a7 0 k7)) B (L3.drop K) 4) := r8 _ _ BW R7.out
        have T8 : Hid (Tg B w (lay4 w7 w.heap.size P C S (.slice a7 0 k7))) := t8
        unfold lay4 at e0 e1 e2 e3
        clear b7 t8 r8
        go_wp2
        refine bodyPost_ret (v := .agg #[.int .i64 P, .int .i64 C, .int .i64 S, .slice a7 0 k7]) (by simp [results, Tryz.results50, go_sem, e0, e1, e2, e3]) rfl ⟨P, C, S, a7, k7, [], L3.drop K, 4, rfl, IsI.nil _ _, .inl rfl, by simp, ⟨by omega, by omega⟩, R8.out, by have := HL.out; rw [List.length_drop]; omega, T8.out, .inr ⟨by decide, KR2.out⟩⟩
      · have S6 : Hid (SetAt w6 (w5.heap.size + 1) w5.heap.size N (fB X)) := s6
        have T6 : Hid (Tg B D w6) := T5.out.trans (Tg.ofBelow b6)
        have R6 : Hid (RdAt w6 B (L3.drop K) 0) := rd_keep R5.out b6
        have OK6 : Hid (bitsOk N X = true) := bitsOk_iff.2 s6.within
        clear s6 b6
        obtain ⟨V, hV⟩ : ∃ V, lsL (fB X) N = V := ⟨_, rfl⟩
        have HV : Hid (lsL (fB X) N = V) := hV
        have V16 : V.length ≤ 16 := by rw [← hV, lsL_len]; exact Nat.le_trans (cnt_le _ _) n16
        have VI : Hid (∀ x ∈ V, -9223372036854775808 ≤ x ∧ x ≤ 9223372036854775807) := fun x hx => by
          rw [← HV.out] at hx
          obtain ⟨i, rfl, hi, _⟩ := lsL_mem _ _ _ hx
          omega
        have KR2 : Hid (readG l = tailG P C S V (L3.drop K)) := by
          show _ = _
          rw [KR.out, set_ok (by rw [HN.out, HK.out]; exact KL.out) (by rw [HN.out, HK.out, ← HXE.out]; exact OK6.out), HN.out, HK.out, ← HXE.out, HV.out]
        have SO : Hid (spOk P C S V = true) := spOk_iff.2 ⟨HX.out, by rw [HN.out, ← HV.out]; exact ls_ok _ _⟩
        clear hV
        go_wp2_with fail
        refine (fail_any B (L3.drop K) 0 0 _ R6.out).mono ?_
        rw [failV_zero]
        rintro e w7 ⟨rfl, r7, g7⟩
        have R7 : Hid (RdAt w7 B (L3.drop K) 0) := r7
        have T67 : Hid (Tg B w6 w7) := Tg.ofGrown g7
        have T7 : Hid (Tg B D w7) := T6.out.trans T67.out
        have S7 : Hid (SetAt w7 (w5.heap.size + 1) w5.heap.size N (fB X)) := S6.out.tg T67.out (by have := Z5.out; have := ZD.out; omega) (by have := Z5.out; have := ZD.out; omega)
        clear r7 g7
        go_wp2_with fail
        refine (list_own (w5.heap.size + 1) w5.heap.size N (fB X) _ S7.out (TD.out.tg T7.out hB).2 V HV.out).mono ?_
        rintro e w8 ⟨a8, k8, rfl, o8, b8⟩
        have R8 : Hid (RdAt w8 B (L3.drop K) 0) := rd_keep R7.out b8
        have T8 : Hid (Tg B D w8) := T7.out.trans (Tg.ofBelow b8)
        have GE : Hid (∀ ad, a8 = some ad → D.heap.size ≤ ad.block) := fun ad ha => Nat.le_trans T7.out.size ((o8.parts.2.2.2 ad ha).1)
        have I8 : Hid (IsI w8 a8 V) := ownsI_isI VI.out o8
        have Q7 : Hid (w8.heap[w.heap.size]? = some (.cells (dcells 0 0 0 none 0 0) 33 (0, 0))) := by show _ = _; rw [T8.out.block w.heap.size (by have := ZD.out; omega) (by omega)]; exact RD.out
        have TW : Hid (Tg B w w8) := (Tg.ofBelow BD.out).trans T8.out
        have y0 := dcell0 Q7.out
        have y1 := dcell1 Q7.out
        have y2 := dcell2 Q7.out
        have y3 := dcell3 Q7.out
        have z0 := dthawed Q7.out 0
        have z1 := dthawed Q7.out 1
        have z2 := dthawed Q7.out 2
        have z3 := dthawed Q7.out 3
        obtain ⟨e0, e1, e2, e3⟩ := lay4_cells (p := P) (c := C) (s := S) (v := .slice a8 V.length k8) Q7.out
        obtain ⟨t9, r9⟩ := lay_span (p := P) (c := C) (s := S) (v := .slice a8 V.length k8) TW.out Q7.out
        have R9 : Hid (RdAt (lay4 w8 w.heap.size P C S (.slice a8 V.length k8)) B (L3.drop K) 0) := r9 _ _ BW R8.out
        have T9 : Hid (Tg B w (lay4 w8 w.heap.size P C S (.slice a8 V.length k8))) := t9
        have I9 : Hid (IsI (lay4 w8 w.heap.size P C S (.slice a8 V.length k8)) a8 V) := I8.out.lay4 (fun ad ha => by have := GE.out ad ha; have := ZD.out; omega)
        unfold lay4 at e0 e1 e2 e3
        clear b8 t9 r9 o8
        go_wp2
        refine bodyPost_ret (v := .agg #[.int .i64 P, .int .i64 C, .int .i64 S, .slice a8 V.length k8]) (by simp [results, Tryz.results50, go_sem, e0, e1, e2, e3]) rfl ⟨P, C, S, a8, k8, V, L3.drop K, 0, rfl, I9.out, .inr (fun ad ha => by have := GE.out ad ha; have := ZD.out; omega), V16, ⟨by omega, by omega⟩, R9.out, by have := HL.out; rw [List.length_drop]; omega, T9.out, .inl ⟨rfl, SO.out, KR2.out⟩⟩
  · have HX : Hid (newE P C S ≠ 0) := hx
    have KR : Hid (readG l = badG (failV E3 4)) := by
      show _ = _
      by_cases h0 : E3 = 0
      · rw [K1.out h0, if_neg hx, h0, failV_zero]
      · rw [K2.out h0, failV_ne h0]
    have FN : Hid (failV E3 4 ≠ 0) := by
      show _ ≠ _
      by_cases h0 : E3 = 0
      · rw [h0, failV_zero]; decide
      · rw [failV_ne h0]; exact h0
    have hne : (newE P C S != 0) = true := bne_iff_ne.2 hx
    have PI : Hid (-9223372036854775808 ≤ P ∧ P ≤ 9223372036854775807) := ⟨by omega, by omega⟩
    obtain ⟨x, hxx⟩ : ∃ x, newE P C S = x := ⟨_, rfl⟩
    have HXX : Hid (newE P C S = x) := hxx
    have X0 : Hid (x ≠ 0) := by show _ ≠ _; rw [← hxx]; exact hx
    rw [hxx] at hne
    clear hx hxx
    go_enter Tryz.func50, Tryz.ntmps50
    go_upto_region 1 with (fail)
    rw [HD.out]
    go_wp2_with fail
    refine (upto_any B l 0 4095 _ RR.out).mono ?_
    rw [H1.out]
    rintro e w1 ⟨rfl, r1, g1⟩
    have R1 : Hid (RdAt w1 B L1 E1) := r1
    have T1 : Hid (Tg B D w1) := Tg.ofGrown g1
    clear r1 g1
    go_wp2_with fail
    refine (upto_any B L1 E1 7 _ R1.out).mono ?_
    rw [H2.out]
    rintro e w2 ⟨rfl, r2, g2⟩
    have R2 : Hid (RdAt w2 B L2 E2) := r2
    have T2 : Hid (Tg B D w2) := T1.out.trans (Tg.ofGrown g2)
    clear r2 g2
    go_wp2_with fail
    refine (upto_any B L2 E2 4096 _ R2.out).mono ?_
    rw [H3.out]
    rintro e w3 ⟨rfl, r3, g3⟩
    have R3 : Hid (RdAt w3 B L3 E3) := r3
    have T3 : Hid (Tg B D w3) := T2.out.trans (Tg.ofGrown g3)
    clear r3 g3
    go_wp2_with fail
    refine (new_bad P C S _ (TD.out.tg T3.out hB) PI.out x HXX.out X0.out).mono ?_
    rintro e w4 ⟨rfl, b4⟩
    have R4 : Hid (RdAt w4 B L3 E3) := rd_keep R3.out b4
    have T4 : Hid (Tg B D w4) := T3.out.trans (Tg.ofBelow b4)
    clear b4
    go_wp2_with fail
    refine (fail_any B L3 E3 4 _ R4.out).mono ?_
    rintro e w7 ⟨rfl, r7, g7⟩
    have R7 : Hid (RdAt w7 B L3 (failV E3 4)) := r7
    have T7 : Hid (Tg B D w7) := T4.out.trans (Tg.ofGrown g7)
    have Q7 : Hid (w7.heap[w.heap.size]? = some (.cells (dcells 0 0 0 none 0 0) 33 (0, 0))) := by show _ = _; rw [T7.out.block w.heap.size (by have := ZD.out; omega) (by omega)]; exact RD.out
    have TW : Hid (Tg B w w7) := (Tg.ofBelow BD.out).trans T7.out
    have y0 := dcell0 Q7.out
    have y1 := dcell1 Q7.out
    have y2 := dcell2 Q7.out
    have y3 := dcell3 Q7.out
    have z0 := dthawed Q7.out 0
    have z1 := dthawed Q7.out 1
    have z2 := dthawed Q7.out 2
    have z3 := dthawed Q7.out 3
    obtain ⟨e0, e1, e2, e3⟩ := lay4_cells (p := 0) (c := 0) (s := 0) (v := .slice none 0 0) Q7.out
    obtain ⟨t8, r8⟩ := lay_span (p := 0) (c := 0) (s := 0) (v := .slice none 0 0) TW.out Q7.out
    have R8 : Hid (RdAt (lay4 w7 w.heap.size 0 0 0 (.slice none 0 0)) B L3 (failV E3 4)) := r8 _ _ BW R7.out
    have T8 : Hid (Tg B w (lay4 w7 w.heap.size 0 0 0 (.slice none 0 0))) := t8
    unfold lay4 at e0 e1 e2 e3
    clear t8 r8 r7 g7
    go_wp2
    refine bodyPost_ret (v := .agg #[.int .i64 0, .int .i64 0, .int .i64 0, .slice none 0 0]) (by simp [results, Tryz.results50, go_sem, e0, e1, e2, e3]) rfl ⟨0, 0, 0, none, 0, [], L3, failV E3 4, rfl, IsI.nil _ _, .inl rfl, by simp, ⟨by omega, by omega⟩, R8.out, HL.out, T8.out, .inr ⟨FN.out, KR.out⟩⟩
end Go.Proofs.YtbfamjnnlcopiaaGreatDoor
