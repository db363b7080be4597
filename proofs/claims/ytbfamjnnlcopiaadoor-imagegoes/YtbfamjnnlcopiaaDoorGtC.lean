/- Layer 17: NumRd again -/
import Derived.Test.YtbfamjnnlcopiaaDoorJrRoF
import Derived.Test.YtbfamjnnlcopiaaDoorJrRoE
import Derived.Test.YtbfamjnnlcopiaaDoorJrRoI
namespace Go.Proofs.YtbfamjnnlcopiaaDoor
open Go.RowKit
set_option linter.unusedVariables false
set_option maxRecDepth 4000
theorem end_long (B : Nat) (a : Option Addr) (n cap : Nat) (w : World) (h0 : w.cell? ⟨B, 0, none⟩ = some (.slice a n cap)) (h : w.cell? ⟨B, 1, none⟩ = some (.int .i64 0)) (hn : (0 : Int) < (n : Int)) :
    Calls Tryd.prog 37 #[.pointer (some ⟨B, 0, none⟩)] w fun r w' => r = .returned (.int .i64 6) ∧ w = w' := by
  go_enter Tryd.func37, Tryd.ntmps37
  go_wp2_with (go_at_call 64; refine (left_ok B a n cap _ h0 h).mono ?_; rintro r w' ⟨rfl, rfl⟩)
  go_ret
  exact ⟨rfl, rfl⟩

theorem end_ok (B : Nat) (a : Option Addr) (cap : Nat) (w : World) (h0 : w.cell? ⟨B, 0, none⟩ = some (.slice a 0 cap)) (h : w.cell? ⟨B, 1, none⟩ = some (.int .i64 0)) :
    Calls Tryd.prog 37 #[.pointer (some ⟨B, 0, none⟩)] w fun r w' => r = .returned (.int .i64 0) ∧ w = w' := by
  go_enter Tryd.func37, Tryd.ntmps37
  go_wp2_with (first
    | (go_at_call 64; refine (left_ok B a 0 cap _ h0 h).mono ?_; rintro r w' ⟨rfl, rfl⟩)
    | (go_at_call 60; refine (err_two B 0 _ h).mono ?_; rintro r w' ⟨rfl, rfl⟩))
  go_ret
  exact ⟨rfl, rfl⟩

theorem end_fault (B : Nat) (e : Int) (w : World) (h : w.cell? ⟨B, 1, none⟩ = some (.int .i64 e)) (he : (e != 0) = true) :
    Calls Tryd.prog 37 #[.pointer (some ⟨B, 0, none⟩)] w fun r w' => r = .returned (.int .i64 e) ∧ w = w' := by
  go_enter Tryd.func37, Tryd.ntmps37
  go_wp2_with (first
    | (go_at_call 64; refine (left_fault B e _ h he).mono ?_; rintro r w' ⟨rfl, rfl⟩)
    | (go_at_call 60; refine (err_two B e _ h).mono ?_; rintro r w' ⟨rfl, rfl⟩))
  go_ret
  exact ⟨rfl, rfl⟩

theorem end_nil (w : World) :
    Calls Tryd.prog 37 #[.pointer none] w fun r w' => r = .returned (.int .i64 1) ∧ w = w' := by
  go_enter Tryd.func37, Tryd.ntmps37
  go_wp2_with (first
    | (go_at_call 64; refine (left_nil _).mono ?_; rintro r w' ⟨rfl, rfl⟩)
    | (go_at_call 60; refine (err_nil _).mono ?_; rintro r w' ⟨rfl, rfl⟩))
  go_ret
  exact ⟨rfl, rfl⟩

end Go.Proofs.YtbfamjnnlcopiaaDoor

/- Layer 17: NumFx again -/
namespace Go.Proofs.YtbfamjnnlcopiaaDoor
open Go.RowKit
set_option linter.unusedVariables false
set_option maxRecDepth 4000
/-- What Bytes answers, what is left behind it, and the fault. -/
def bsS (l : List Int) (e : Int) (K : Nat) : List Int × List Int × Int :=
  if e = 0 then (if K ≤ l.length then (l.take K, l.drop K, 0) else ([], l, 3)) else ([], l, e)

theorem bytes_fault (B : Nat) (e N : Int) (w : World) (h : w.cell? ⟨B, 1, none⟩ = some (.int .i64 e)) (he : (e != 0) = true) :
    Calls Tryd.prog 36 #[.pointer (some ⟨B, 0, none⟩), .int .i64 N] w fun r w' => r = .returned (.slice none 0 0) ∧ w = w' := by
  rcases Int.lt_trichotomy 0 N with hn | rfl | hn
  all_goals
    go_enter Tryd.func36, Tryd.ntmps36
    go_wp2_with fail
    refine (take_fault B e _ _ h he).mono ?_
    rintro r w' ⟨rfl, rfl⟩
    go_wp2_with fail
    refine (clone_nil 0 0 _).mono ?_
    rintro r w' ⟨rfl, rfl⟩
    go_wp2
    go_ret
    exact ⟨rfl, rfl⟩

theorem take_over (B : Nat) (l : List Int) (k : Int) (w : World) (h : RdAt w B l 0) (hk : (l.length : Int) < k) :
    Calls Tryd.prog 62 #[.pointer (some ⟨B, 0, none⟩), .int .i64 k] w fun r w' => r = .returned (.slice none 0 0) ∧ RdAt w' B l 3 ∧ w.grownBy w' (some B) := by
  obtain ⟨a, cap, c1, c2, c3, c4, _, _, _⟩ := isB_of_rd h
  refine (take_short B a l.length cap k w c1 c2 c4 hk).mono ?_
  rintro r w' ⟨rfl, rfl⟩
  exact ⟨rfl, rd_fault h 3, grown_set _ _ _⟩

/-- A copy of bytes of the call's own: what it owns may be written. -/
def FreshB (w' : World) (base : Nat) (a : Option Addr) (l : List Int) (cap : Nat) : Prop :=
  (l = [] ∧ a = none ∧ cap = 0) ∨ ∃ g, a = some ⟨g, 0, none⟩ ∧ base ≤ g ∧ w'.ownsRow base 5 1 (.slice (some ⟨g, 0, none⟩) l.length cap) l.length (l.map (Value.int .u8))

theorem clone_any (a : Option Addr) (n cap : Nat) (l : List Int) (w : World) (h : IsB w a l) (hn : l.length = n) (hm : l.length ≤ 140737488355328) :
    Calls Tryd.prog 18 #[.slice a n cap] w fun e w' => ∃ a' cap', e = .returned (.slice a' n cap') ∧ FreshB w' w.heap.size a' l cap' ∧ Below w.heap.size w w' := by
  subst hn
  rcases a with _ | ad
  · obtain ⟨_, rfl | ⟨b, off, e, _⟩⟩ := h
    · refine (clone_nil _ cap w).mono ?_
      rintro e w' ⟨rfl, rfl⟩
      exact ⟨none, 0, rfl, .inl ⟨rfl, rfl, rfl⟩, Below.refl _ _⟩
    · cases e
  · have hc : ∀ i, i < l.length → w.cell? (ad.add i) = some (.int .u8 (l.getD i 0)) := by
      intro i hi
      obtain ⟨_, rfl | ⟨b, off, e, _, hc⟩⟩ := h
      · simp at hi
      · cases e
        rw [addr_add]; exact hc i hi
    refine (rclone_at ad l.length cap l w rfl hm hc).mono ?_
    rintro e w' ⟨v, rfl, hown, hv, hbel⟩
    obtain ⟨g, c, rfl, hg1, hg2, hc1, hc2, hcell⟩ := owns_parts rfl hown hv
    exact ⟨some ⟨g, 0, none⟩, c, rfl, .inr ⟨g, rfl, hg1, hown⟩, hbel⟩

set_option maxHeartbeats 1000000 in
theorem bytes_any (B : Nat) (l : List Int) (e N M : Int) (w : World) (h : RdAt w B l e) (hM : N < 0 ∧ M = 0 ∨ N = 0 ∧ M = 0 ∨ 0 < N ∧ M = N) (hm : l.length ≤ 140737488355328) :
    Calls Tryd.prog 36 #[.pointer (some ⟨B, 0, none⟩), .int .i64 N] w fun r w' => ∃ a' cap', r = .returned (.slice a' (bsS l e M.toNat).1.length cap') ∧ FreshB w' w.heap.size a' (bsS l e M.toNat).1 cap' ∧ RdAt w' B (bsS l e M.toNat).2.1 (bsS l e M.toNat).2.2 ∧ w.grownBy w' (some B) := by
  have HR : Hid (RdAt w B l e) := h
  by_cases he : e = 0
  · subst he
    clear h
    obtain ⟨K, hK⟩ : ∃ K : Nat, M = K := ⟨M.toNat, by omega⟩
    by_cases hk : K ≤ l.length
    · have HF : Hid (bsS l 0 M.toNat = (l.take K, l.drop K, 0)) := by show _ = _; rw [hK, Int.toNat_natCast, bsS, if_pos rfl, if_pos hk]
      have ht : (l.take K).length = K := by rw [List.length_take]; omega
      have HT : Hid ((l.take K).length = K) := ht
      have hK0 : N < 0 ∧ K = 0 ∨ N = 0 ∧ K = 0 ∨ 0 < N ∧ N = K := by omega
      clear hK ht hM
      rcases hK0 with ⟨h1, rfl⟩ | ⟨rfl, rfl⟩ | ⟨h1, rfl⟩
      all_goals
        go_enter Tryd.func36, Tryd.ntmps36
        go_wp2_with fail
        refine (take_rd B _ l w HR.out hk).mono ?_
        rintro r w1 ⟨a1, cap1, rfl, hR1, hg1, i1⟩
        go_wp2_with fail
        refine (clone_any a1 _ cap1 _ w1 i1 HT.out (by rw [List.length_take]; omega)).mono ?_
        rintro r w2 ⟨a2, cap2, rfl, hF2, b2⟩
        go_wp2
        go_ret
        rw [HF.out]
        refine ⟨a2, cap2, ret_slice HT.out.symm, ?_, rd_keep hR1 b2, grown_then hg1 b2⟩
        rcases hF2 with h | ⟨g, e1, e2, e3⟩
        · exact .inl h
        · refine .inr ⟨g, e1, Nat.le_trans hg1.size e2, ?_⟩
          obtain ⟨q1, q2⟩ := e3
          refine ⟨q1, ?_⟩
          rcases q2 with q2 | ⟨g', c', cur, r1, r2, r3⟩
          · exact .inl q2
          · exact .inr ⟨g', c', cur, r1, Nat.le_trans hg1.size r2, r3⟩
    · have HF : Hid (bsS l 0 M.toNat = ([], l, 3)) := by show _ = _; rw [hK, Int.toNat_natCast, bsS, if_pos rfl, if_neg hk]
      have hN : 0 < N ∧ N = K := by omega
      obtain ⟨h1, rfl⟩ := hN
      clear hK hM
      go_enter Tryd.func36, Tryd.ntmps36
      go_wp2_with fail
      refine (take_over B l _ w HR.out (by omega)).mono ?_
      rintro r w1 ⟨rfl, hR1, hg1⟩
      go_wp2_with fail
      refine (clone_nil 0 0 _).mono ?_
      rintro r w' ⟨rfl, rfl⟩
      go_wp2
      go_ret
      rw [HF.out]
      exact ⟨none, 0, rfl, .inl ⟨rfl, rfl, rfl⟩, hR1, hg1⟩
  · obtain ⟨a, cap, c1, c2, c3, c4, _, _, _⟩ := isB_of_rd h
    refine (bytes_fault B e N w c2 (by rw [bne_iff_ne]; exact he)).mono ?_
    rintro r w' ⟨rfl, rfl⟩
    rw [bsS, if_neg he]
    exact ⟨none, 0, rfl, .inl ⟨rfl, rfl, rfl⟩, h, World.grownBy.refl _ _⟩
end Go.Proofs.YtbfamjnnlcopiaaDoor

/- Layer 17: NumRr again -/
namespace Go.Proofs.YtbfamjnnlcopiaaDoor
open Go.RowKit
set_option linter.unusedVariables false
set_option maxRecDepth 4000
def endV (l : List Int) (e : Int) : Int := if e = 0 then (if l.length = 0 then 0 else 6) else e

theorem end_any (B : Nat) (l : List Int) (e : Int) (w : World) (h : RdAt w B l e) :
    Calls Tryd.prog 37 #[.pointer (some ⟨B, 0, none⟩)] w fun r w' => r = .returned (.int .i64 (endV l e)) ∧ w = w' := by
  obtain ⟨a, cap, c1, c2, c3, c4, _, _, _⟩ := isB_of_rd h
  by_cases he : e = 0
  · subst he
    by_cases hl : l.length = 0
    · rw [endV, if_pos rfl, if_pos hl]
      rw [hl] at c1
      exact end_ok B a cap w c1 c2
    · rw [endV, if_pos rfl, if_neg hl]
      exact end_long B a l.length cap w c1 c2 (by omega)
  · rw [endV, if_neg he]
    exact end_fault B e w c2 (by rw [bne_iff_ne]; exact he)

end Go.Proofs.YtbfamjnnlcopiaaDoor
