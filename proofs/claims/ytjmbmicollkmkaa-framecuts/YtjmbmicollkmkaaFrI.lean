/- The document's answers: what Decode and Split of the reference return. -/
import Derived.Test.YtjmbmicollkmkaaFrH
namespace Go.Proofs.Ytjmbmicollkmkaa
open Go.RowKit
set_option linter.unusedVariables false

theorem whole_eq {l : List Int} (h : extL l ≤ l.length) : wholeE (l.take (extL l)) = wrongL l false ∧ wholeB (l.take (extL l)) = bodyW l false ∧ wholeK (l.take (extL l)) = kindW l false := by
  have hge := extL_ge l
  have hl : (l.take (extL l)).length = extL l := by rw [List.length_take]; omega
  have e1 : wholeE (l.take (extL l)) = wrongL l false := by
    rw [wholeE, hl, wrongL, if_neg (show ¬ l.length < extL l by omega), if_neg (show ¬ (false = true ∧ extL l < l.length) by simp), List.take_take, Nat.min_eq_left (by omega)]
    have : (l.take (extL l)).getD 0 0 = l.getD 0 0 := by simp [List.getD, show 0 < extL l by omega]
    rw [this]
  refine ⟨e1, ?_, ?_⟩
  · rw [wholeB, bodyW, e1, hl, bodyL, List.take_take, Nat.min_eq_left (by omega)]
  · rw [wholeK, kindW, e1]
    have : (l.take (extL l)).getD 0 0 = l.getD 0 0 := by simp [List.getD, show 0 < extL l by omega]
    rw [this]

theorem wrong_short {l : List Int} (al : Bool) (h : l.length < extL l) : wrongL l al = 3 := by rw [wrongL, if_pos h]
theorem wrong_long {l : List Int} (h : extL l < l.length) : wrongL l true = 6 := by rw [wrongL, if_neg (by omega), if_pos ⟨rfl, h⟩]
theorem wrong_alone {l : List Int} (h : extL l = l.length) : wrongL l true = wrongL l false := by
  rw [wrongL, wrongL, if_neg (show ¬ l.length < extL l by omega), if_neg (show ¬ (true = true ∧ extL l < l.length) by omega), if_neg (show ¬ l.length < extL l by omega), if_neg (show ¬ (false = true ∧ extL l < l.length) by simp)]
theorem kind_bad {l : List Int} {al : Bool} (h : wrongL l al ≠ 0) : kindW l al = 0 := by rw [kindW, if_neg h]
theorem body_bad {l : List Int} {al : Bool} (h : wrongL l al ≠ 0) : bodyW l al = [] := by rw [bodyW, if_neg h]
theorem rest_bad {l : List Int} (h : wrongL l false ≠ 0) : restW l = [] := by rw [restW, if_neg h]

/-- Appending, the length told apart. -/
theorem wpList_appn {ops : Array Oper} {rest : List Oper} {o : Oper} {a : Act} {Q : Exit → Act → World → Prop} {w : World} (hgd : o.guard = none) (s x : Operand)
    (ho : o.op = .call { callee := .builtin .append, args := #[s, x], argTypes := #[22, 22] })
    (base : Nat) (hbase : base ≤ w.heap.size) (as0 : Option Addr) (L : List Int) (cs n : Nat) (hn : n = L.length) (hs : a.eval s = .slice as0 n cs) (hown : OwnsB w base as0 L cs)
    (ax : Option Addr) (l : List Int) (cx m : Nat) (hm : m = l.length) (hx : a.eval x = .slice ax m cx) (hB : IsB w ax l) (hnil : ax = none → l = [] ∧ cx = 0) (hlen : L.length + l.length ≤ 140737488355328)
    (h : ∀ a' cap' w', OwnsB w' base a' (L ++ l) cap' → Below base w w' → wpList Try.prog ops Q rest (a.put o.dst (.slice a' (L ++ l).length cap')) w') :
    wpList Try.prog ops Q (o :: rest) a w := by
  subst hn hm
  exact wpList_app hgd s x ho base hbase as0 L cs hs hown ax l cx hx hB hnil hlen h

set_option maxHeartbeats 1000000 in
theorem rdecode_any (a : Option Addr) (cap n : Nat) (l : List Int) (w : World) (hn : n = l.length) (h : IsB w a l) (hc : l.length ≤ cap) (hm : cap ≤ maxLen) (hbig : l.length ≤ 140737488355328) :
    Calls Try.prog 15 #[.slice a n cap] w fun e w' => ∃ a' cap', e = .returned (.tuple #[.int .i64 (kindW l true), .slice a' (bodyW l true).length cap', .int .i64 (wrongL l true)]) ∧ OwnsB w' w.heap.size a' (bodyW l true) cap' ∧ Below w.heap.size w w' := by
  subst hn
  have H : Hid (IsB w a l) := h
  have hge := extL_ge l
  have hle := extL_le h.1
  have HM : Hid (cap ≤ maxLen) := hm
  have lm : l.length ≤ maxLen := Nat.le_trans hc hm
  unfold maxLen at hm
  by_cases h1 : l.length < extL l
  · have S0 : Hid (sizeL l = 0) := by show _ = _; rw [sizeL, if_pos h1]
    have hw := wrong_short true h1
    rw [kind_bad (by rw [hw]; decide), body_bad (by rw [hw]; decide), hw]
    clear h hge hle h1 hw
    go_enter Try.func15, Try.ntmps15
    go_wp2_with (go_at_call 25; refine (rsize_any a cap _ l _ rfl H.out lm).mono ?_; rw [S0.out]; rintro e w' ⟨rfl, m1, rfl⟩)
    refine bodyPost_ret (v := .tuple #[.int .i64 0, .slice none 0 0, .int .i64 3]) (by simp [results, Try.results15, go_sem]) rfl ?_
    exact ⟨none, 0, rfl, owns_none _ _, below_drewN (Below.refl _ _) _⟩
  · have S0 : Hid (sizeL l = extL l) := by show _ = _; rw [sizeL, if_neg h1]
    by_cases h2 : extL l < l.length
    · have hw := wrong_long h2
      rw [kind_bad (by rw [hw]; decide), body_bad (by rw [hw]; decide), hw]
      generalize extL l = E at *
      clear h h1 hw
      go_enter Try.func15, Try.ntmps15
      go_wp2_with (go_at_call 25; refine (rsize_any a cap _ l _ rfl H.out lm).mono ?_; rw [S0.out]; rintro e w' ⟨rfl, m1, rfl⟩)
      refine bodyPost_ret (v := .tuple #[.int .i64 0, .slice none 0 0, .int .i64 6]) (by simp [results, Try.results15, go_sem]) rfl ?_
      exact ⟨none, 0, rfl, owns_none _ _, below_drewN (Below.refl _ _) _⟩
    · have he : extL l = l.length := by omega
      obtain ⟨f1, f2, f3⟩ := whole_eq (Nat.le_of_eq he)
      rw [he, List.take_length] at f1 f2 f3
      have hw := wrong_alone he
      have k1 : kindW l true = wholeK l := by rw [f3, kindW, kindW, hw]
      have k2 : bodyW l true = wholeB l := by rw [f2, bodyW, bodyW, hw]
      have k3 : wrongL l true = wholeE l := by rw [f1, hw]
      rw [k1, k2, k3]
      rw [he] at hge hle S0
      obtain ⟨_, rfl | ⟨b, off, rfl, hs, hcell⟩⟩ := h
      · simp at hge
      clear h1 h2 he f1 f2 f3 hw k1 k2 k3 hcell
      go_enter Try.func15, Try.ntmps15
      go_wp2_with fail
      refine (rsize_any _ cap _ l _ rfl H.out lm).mono ?_
      rw [S0.out]
      rintro e w' ⟨rfl, m1, rfl⟩
      go_wp2_with fail
      refine (rwhole_any b off cap _ l _ rfl (H.out.drewN m1) hc HM.out hge hbig).mono ?_
      rintro e w2 ⟨a2, c2, rfl, o2, b2⟩
      go_wp2
      refine bodyPost_ret (v := .tuple #[.int .i64 (wholeK l), .slice a2 (wholeB l).length c2, .int .i64 (wholeE l)]) (by simp [results, Try.results15, go_sem]) rfl ?_
      exact ⟨a2, c2, rfl, o2, (below_drewN (Below.refl _ _) m1).trans b2⟩

set_option maxHeartbeats 1000000 in
theorem rsplit_any (a : Option Addr) (cap n : Nat) (l : List Int) (w : World) (hn : n = l.length) (h : IsB w a l) (hc : l.length ≤ cap) (hm : cap ≤ maxLen) (hbig : l.length ≤ 140737488355328) :
    Calls Try.prog 17 #[.slice a n cap] w fun e w' => ∃ a' cap' a'' cap'', e = .returned (.tuple #[.int .i64 (kindW l false), .slice a' (bodyW l false).length cap', .slice a'' (restW l).length cap'', .int .i64 (wrongL l false)]) ∧ OwnsB w' w.heap.size a' (bodyW l false) cap' ∧ OwnsB w' w.heap.size a'' (restW l) cap'' ∧ Below w.heap.size w w' := by
  subst hn
  have H : Hid (IsB w a l) := h
  have hge := extL_ge l
  have hle := extL_le h.1
  have HM : Hid (cap ≤ maxLen) := hm
  have lm : l.length ≤ maxLen := Nat.le_trans hc hm
  unfold maxLen at hm
  by_cases h1 : l.length < extL l
  · have S0 : Hid (sizeL l = 0) := by show _ = _; rw [sizeL, if_pos h1]
    have hw := wrong_short false h1
    rw [kind_bad (by rw [hw]; decide), body_bad (by rw [hw]; decide), rest_bad (by rw [hw]; decide), hw]
    clear h hge hle h1 hw
    go_enter Try.func17, Try.ntmps17
    go_wp2_with (go_at_call 25; refine (rsize_any a cap _ l _ rfl H.out lm).mono ?_; rw [S0.out]; rintro e w' ⟨rfl, m1, rfl⟩)
    refine bodyPost_ret (v := .tuple #[.int .i64 0, .slice none 0 0, .slice none 0 0, .int .i64 3]) (by simp [results, Try.results17, go_sem]) rfl ?_
    exact ⟨none, 0, none, 0, rfl, owns_none _ _, owns_none _ _, below_drewN (Below.refl _ _) _⟩
  · have S0 : Hid (sizeL l = extL l) := by show _ = _; rw [sizeL, if_neg h1]
    obtain ⟨f1, f2, f3⟩ := whole_eq (Nat.le_of_not_lt h1)
    have hwb := wrong_bd l false
    obtain ⟨_, rfl | ⟨b, off, rfl, hs, hcell⟩⟩ := h
    · simp at h1; omega
    have hl : (l.take (extL l)).length = extL l := by rw [List.length_take]; omega
    have I1 : Hid (IsB w (some ⟨b, off, none⟩) (l.take (extL l))) := IsB.part H.out 0 _
    have I0 : Hid (IsB w (some ⟨b, off + extL l, none⟩) (l.drop (extL l))) := by
      have := IsB.part H.out (extL l) l.length
      rwa [List.take_of_length_le (by rw [List.length_drop]; omega)] at this
    have HD : Hid ((l.drop (extL l)).length = l.length - extL l) := List.length_drop
    have hrest : restW l = if wrongL l false = 0 then l.drop (extL l) else [] := rfl
    rw [← f1, ← f2, ← f3]
    rw [← f1] at hrest hwb
    have HR : Hid (restW l = if wholeE (l.take (extL l)) = 0 then l.drop (extL l) else []) := hrest
    obtain ⟨E, hE⟩ : ∃ E, extL l = E := ⟨_, rfl⟩
    rw [hE] at hge hle S0 h1 I1 I0 HD HR hl hwb
    rw [hE]
    obtain ⟨Y, hY⟩ : ∃ Y, l.take E = Y := ⟨_, rfl⟩
    obtain ⟨Z, hZ⟩ : ∃ Z, l.drop E = Z := ⟨_, rfl⟩
    rw [hY] at I1 HR hl hwb
    rw [hZ] at I0 HD HR
    rw [hY]
    have HY : Hid (E = Y.length) := hl.symm
    obtain ⟨r, hr⟩ : ∃ r, wholeE Y = r := ⟨_, rfl⟩
    rw [hr] at HR hwb
    have ER : Hid (wholeE Y = r) := hr
    rw [hr]
    clear hrest f1 f2 f3 hE hY hZ hr hcell hl
    by_cases h0 : r = 0
    · subst h0
      rw [if_pos rfl] at HR
      rw [HR.out]
      have IZ : Hid (cap = E → IsB w (some ⟨b, off, none⟩) Z) := fun hcE => ⟨I0.out.1, .inl (List.eq_nil_of_length_eq_zero (by have := HD.out; omega))⟩
      rcases Decidable.em (cap = E) with rfl | hcE
      all_goals
        go_enter Try.func17, Try.ntmps17
        go_wp2_with fail
        refine (rsize_any _ cap _ l _ rfl H.out lm).mono ?_
        rw [S0.out]
        rintro e w' ⟨rfl, m1, rfl⟩
        go_wp2_with fail
        refine (rwhole_any b off _ _ Y _ HY.out (I1.out.drewN m1) (by have := HY.out; omega) (by unfold maxLen; omega) (by have := HY.out; omega) (by have := HY.out; omega)).mono ?_
        rw [ER.out]
        rintro e w2 ⟨a2, c2, rfl, o2, b2⟩
        have B2 : Hid (Below w.heap.size w w2) := (below_drewN (Below.refl _ _) m1).trans b2
        have O2 : Hid (OwnsB w2 w.heap.size a2 (wholeB Y) c2) := o2
        clear o2 b2
        have N2 : Hid (Below w2.heap.size w2 (w2.alloc (.cells #[] 5))) := (Below.refl _ w2).alloc (Nat.le_refl _) _
        go_wp2_with (at_builtin; refine wpList_appn rfl _ _ rfl w2.heap.size (by simp) _ [] 0 _ rfl rfl (ownsB_made w2) _ Z _ _ (by have := HD.out; omega) rfl (by first | exact (I0.out.keep B2.out).keep N2.out | exact ((IZ.out (by simp)).keep B2.out).keep N2.out) (fun h => by cases h) (by have := HD.out; simp; omega) ?_; intro a3 c3 w3 o3 b3; rw [List.nil_append] at o3 ⊢)
        refine bodyPost_ret (v := .tuple #[.int .i64 (wholeK Y), .slice a2 (wholeB Y).length c2, .slice a3 Z.length c3, .int .i64 0]) (by simp [results, Try.results17, go_sem]) rfl ?_
        have b4 := N2.out.trans b3
        exact ⟨a2, c2, a3, c3, rfl, O2.out.keep b4, o3.mono B2.out.size, B2.out.trans (b4.mono B2.out.size)⟩
    · rw [if_neg h0] at HR
      rw [HR.out]
      have E1 : Hid (wholeK Y = 0) := by show _ = _; rw [wholeK, ER.out, if_neg h0]
      have E2 : Hid (wholeB Y = []) := by show _ = _; rw [wholeB, ER.out, if_neg h0]
      rw [E1.out, E2.out]
      go_enter Try.func17, Try.ntmps17
      go_wp2_with fail
      refine (rsize_any _ cap _ l _ rfl H.out lm).mono ?_
      rw [S0.out]
      rintro e w' ⟨rfl, m1, rfl⟩
      go_wp2_with fail
      refine (rwhole_any b off _ _ Y _ HY.out (I1.out.drewN m1) (by have := HY.out; omega) (by unfold maxLen; omega) (by have := HY.out; omega) (by have := HY.out; omega)).mono ?_
      rw [ER.out]
      rintro e w2 ⟨a2, c2, rfl, o2, b2⟩
      have B2 : Hid (Below w.heap.size w w2) := (below_drewN (Below.refl _ _) m1).trans b2
      clear o2 b2
      go_wp2
      refine bodyPost_ret (v := .tuple #[.int .i64 0, .slice none 0 0, .slice none 0 0, .int .i64 r]) (by simp [results, Try.results17, go_sem]) rfl ?_
      exact ⟨none, 0, none, 0, rfl, owns_none _ _, owns_none _ _, B2.out⟩
end Go.Proofs.Ytjmbmicollkmkaa
