/- What Fixed and Bytes of a reader answer, and what becomes of the reader. -/
import Derived.Test.YtdhamfhicdcdgaaNumLf
namespace Go.Proofs.Ytdhamfhicdcdgaa
open Go.RowKit
set_option linter.unusedVariables false

/-- What Fixed answers, what is left behind it, and the fault. -/
def fxS (l : List Int) (e : Int) (K : Nat) : Int × List Int × Int :=
  if e = 0 then (if K ≤ l.length then (getL (l.take K), l.drop K, 0) else (0, l, 3)) else (0, l, e)

/-- What Bytes answers, what is left behind it, and the fault. -/
def bsS (l : List Int) (e : Int) (K : Nat) : List Int × List Int × Int :=
  if e = 0 then (if K ≤ l.length then (l.take K, l.drop K, 0) else ([], l, 3)) else ([], l, e)

theorem grown_below {w w' : World} (h : Below w.heap.size w w') (row : Option Nat) : w.grownBy w' row := ⟨h.os, h.tape, h.output, h.size, fun k hk _ => h.block k hk⟩

theorem grown_then {a b c : World} {row : Option Nat} (h : a.grownBy b row) (k : Below b.heap.size b c) : a.grownBy c row :=
  ⟨k.os.trans h.os, k.tape.trans h.tape, k.output.trans h.output, Nat.le_trans h.size k.size, fun i hi hn => (k.block i (Nat.lt_of_lt_of_le hi h.size)).trans (h.block i hi hn)⟩

theorem rd_keep {w w' : World} {B : Nat} {l : List Int} {e : Int} (h : RdAt w B l e) (hb : Below w.heap.size w w') : RdAt w' B l e := by
  obtain ⟨a, cap, hh, h1, h2, h3, h4⟩ := h
  have hlt := lt_of_block hh
  refine ⟨a, cap, (hb.block B hlt).trans hh, h1, h2, h3, ?_⟩
  rcases h4 with h4 | ⟨b, off, e1, e2, e3⟩
  · exact .inl h4
  · exact .inr ⟨b, off, e1, e2, fun i hi => by rw [hb.cell (p := ⟨b, off + i, none⟩) (by show b < _; omega)]; exact e3 i hi⟩

theorem fixed_fault (B : Nat) (e N : Int) (w : World) (h : w.cell? ⟨B, 1, none⟩ = some (.int .i64 e)) (he : (e != 0) = true) :
    Calls Try.prog 20 #[.pointer (some ⟨B, 0, none⟩), .int .i64 N] w fun r w' => r = .returned (.int .u64 0) ∧ w = w' := by
  go_enter Try.func20, Try.ntmps20
  go_wp2_with fail
  refine (within_any N _).mono ?_
  rintro r w' ⟨rfl, rfl⟩
  go_wp2_with fail
  refine (take_fault B e _ _ h he).mono ?_
  rintro r w' ⟨rfl, rfl⟩
  go_wp2_with fail
  refine (get_is none 0 0 [] 0 _ ⟨by simp, .inl rfl⟩ rfl (Nat.zero_le _) rfl).mono ?_
  rintro r w' ⟨rfl, rfl⟩
  go_wp2
  go_ret
  exact ⟨rfl, rfl⟩

theorem fixed_nil (N : Int) (w : World) :
    Calls Try.prog 20 #[.pointer none, .int .i64 N] w fun r w' => r = .returned (.int .u64 0) ∧ w = w' := by
  go_enter Try.func20, Try.ntmps20
  go_wp2_with fail
  refine (within_any N _).mono ?_
  rintro r w' ⟨rfl, rfl⟩
  go_wp2_with fail
  refine (take_nil _ _).mono ?_
  rintro r w' ⟨rfl, rfl⟩
  go_wp2_with fail
  refine (get_is none 0 0 [] 0 _ ⟨by simp, .inl rfl⟩ rfl (Nat.zero_le _) rfl).mono ?_
  rintro r w' ⟨rfl, rfl⟩
  go_wp2
  go_ret
  exact ⟨rfl, rfl⟩

theorem bytes_fault (B : Nat) (e N : Int) (w : World) (h : w.cell? ⟨B, 1, none⟩ = some (.int .i64 e)) (he : (e != 0) = true) :
    Calls Try.prog 26 #[.pointer (some ⟨B, 0, none⟩), .int .i64 N] w fun r w' => r = .returned (.slice none 0 0) ∧ w = w' := by
  rcases Int.lt_trichotomy 0 N with hn | rfl | hn
  all_goals
    go_enter Try.func26, Try.ntmps26
    go_wp2_with fail
    refine (take_fault B e _ _ h he).mono ?_
    rintro r w' ⟨rfl, rfl⟩
    go_wp2_with fail
    refine (clone_nil 0 0 _).mono ?_
    rintro r w' ⟨rfl, rfl⟩
    go_wp2
    go_ret
    exact ⟨rfl, rfl⟩

theorem bytes_nil (N : Int) (w : World) :
    Calls Try.prog 26 #[.pointer none, .int .i64 N] w fun r w' => r = .returned (.slice none 0 0) ∧ w = w' := by
  rcases Int.lt_trichotomy 0 N with hn | rfl | hn
  all_goals
    go_enter Try.func26, Try.ntmps26
    go_wp2_with fail
    refine (take_nil _ _).mono ?_
    rintro r w' ⟨rfl, rfl⟩
    go_wp2_with fail
    refine (clone_nil 0 0 _).mono ?_
    rintro r w' ⟨rfl, rfl⟩
    go_wp2
    go_ret
    exact ⟨rfl, rfl⟩

theorem take_over (B : Nat) (l : List Int) (k : Int) (w : World) (h : RdAt w B l 0) (hk : (l.length : Int) < k) :
    Calls Try.prog 39 #[.pointer (some ⟨B, 0, none⟩), .int .i64 k] w fun r w' => r = .returned (.slice none 0 0) ∧ RdAt w' B l 3 ∧ w.grownBy w' (some B) := by
  obtain ⟨a, cap, c1, c2, c3, c4, _, _, _⟩ := isB_of_rd h
  refine (take_short B a l.length cap k w c1 c2 c4 hk).mono ?_
  rintro r w' ⟨rfl, rfl⟩
  exact ⟨rfl, rd_fault h 3, grown_set _ _ _⟩

theorem fixed_any (B : Nat) (l : List Int) (e N : Int) (K : Nat) (w : World) (h : RdAt w B l e) (hK : clampW N = K) (hK8 : K ≤ 8) :
    Calls Try.prog 20 #[.pointer (some ⟨B, 0, none⟩), .int .i64 N] w fun r w' => r = .returned (.int .u64 (fxS l e K).1) ∧ RdAt w' B (fxS l e K).2.1 (fxS l e K).2.2 ∧ w.grownBy w' (some B) := by
  have HR : Hid (RdAt w B l e) := h
  have HK : Hid (clampW N = K) := hK
  by_cases he : e = 0
  · subst he
    clear h hK
    by_cases hk : K ≤ l.length
    · have HF : Hid (fxS l 0 K = (getL (l.take K), l.drop K, 0)) := by show _ = _; rw [fxS, if_pos rfl, if_pos hk]
      go_enter Try.func20, Try.ntmps20
      go_wp2_with fail
      refine (within_any N _).mono ?_
      rintro r w' ⟨rfl, rfl⟩
      rw [HK.out]
      go_wp2_with fail
      refine (take_rd B K l w HR.out hk).mono ?_
      rintro r w1 ⟨a1, cap1, rfl, hR1, hg1, i1⟩
      go_wp2_with fail
      refine (get_is a1 K cap1 (l.take K) (getL (l.take K)) w1 i1 (by rw [List.length_take]; omega) (by rw [List.length_take]; unfold maxLen; omega) (by rw [List.take_take, Nat.min_eq_right hK8])).mono ?_
      rintro r w' ⟨rfl, rfl⟩
      go_wp2
      go_ret
      rw [HF.out]
      exact ⟨rfl, hR1, hg1⟩
    · have HF : Hid (fxS l 0 K = (0, l, 3)) := by show _ = _; rw [fxS, if_pos rfl, if_neg hk]
      go_enter Try.func20, Try.ntmps20
      go_wp2_with fail
      refine (within_any N _).mono ?_
      rintro r w' ⟨rfl, rfl⟩
      rw [HK.out]
      go_wp2_with fail
      refine (take_over B l K w HR.out (by omega)).mono ?_
      rintro r w1 ⟨rfl, hR1, hg1⟩
      go_wp2_with fail
      refine (get_is none 0 0 [] 0 _ ⟨by simp, .inl rfl⟩ rfl (Nat.zero_le _) rfl).mono ?_
      rintro r w' ⟨rfl, rfl⟩
      go_wp2
      go_ret
      rw [HF.out]
      exact ⟨rfl, hR1, hg1⟩
  · obtain ⟨a, cap, c1, c2, c3, c4, _, _, _⟩ := isB_of_rd h
    refine (fixed_fault B e N w c2 (by rw [bne_iff_ne]; exact he)).mono ?_
    rintro r w' ⟨rfl, rfl⟩
    rw [fxS, if_neg he]
    exact ⟨rfl, h, World.grownBy.refl _ _⟩

/-- A copy of bytes of the call's own: what it owns may be written. -/
def FreshB (w' : World) (base : Nat) (a : Option Addr) (l : List Int) (cap : Nat) : Prop :=
  l = [] ∨ ∃ g, a = some ⟨g, 0, none⟩ ∧ base ≤ g ∧ w'.ownsRow base 5 1 (.slice (some ⟨g, 0, none⟩) l.length cap) l.length (l.map (Value.int .u8))

theorem clone_any (a : Option Addr) (n cap : Nat) (l : List Int) (w : World) (h : IsB w a l) (hn : l.length = n) (hm : l.length ≤ 140737488355328) :
    Calls Try.prog 38 #[.slice a n cap] w fun e w' => ∃ a' cap', e = .returned (.slice a' n cap') ∧ FreshB w' w.heap.size a' l cap' ∧ Below w.heap.size w w' := by
  subst hn
  rcases a with _ | ad
  · obtain ⟨_, rfl | ⟨b, off, e, _⟩⟩ := h
    · refine (clone_nil _ cap w).mono ?_
      rintro e w' ⟨rfl, rfl⟩
      exact ⟨none, 0, rfl, .inl rfl, Below.refl _ _⟩
    · cases e
  · have hc : ∀ i, i < l.length → w.cell? (ad.add i) = some (.int .u8 (l.getD i 0)) := by
      intro i hi
      obtain ⟨_, rfl | ⟨b, off, e, _, hc⟩⟩ := h
      · simp at hi
      · cases e
        rw [addr_add]; exact hc i hi
    refine (clone_at ad l.length cap l w rfl hm hc).mono ?_
    rintro e w' ⟨v, rfl, hown, hv, hbel⟩
    obtain ⟨g, c, rfl, hg1, hg2, hc1, hc2, hcell⟩ := owns_parts rfl hown hv
    exact ⟨some ⟨g, 0, none⟩, c, rfl, .inr ⟨g, rfl, hg1, hown⟩, hbel⟩

set_option maxHeartbeats 1000000 in
theorem bytes_any (B : Nat) (l : List Int) (e N M : Int) (w : World) (h : RdAt w B l e) (hM : N < 0 ∧ M = 0 ∨ N = 0 ∧ M = 0 ∨ 0 < N ∧ M = N) (hm : l.length ≤ 140737488355328) :
    Calls Try.prog 26 #[.pointer (some ⟨B, 0, none⟩), .int .i64 N] w fun r w' => ∃ a' cap', r = .returned (.slice a' (bsS l e M.toNat).1.length cap') ∧ FreshB w' w.heap.size a' (bsS l e M.toNat).1 cap' ∧ RdAt w' B (bsS l e M.toNat).2.1 (bsS l e M.toNat).2.2 ∧ w.grownBy w' (some B) := by
  have HR : Hid (RdAt w B l e) := h
  by_cases he : e = 0
  · subst he
    clear h
    obtain ⟨K, hK⟩ : ∃ K : Nat, M = K := ⟨M.toNat, by omega⟩
    by_cases hk : K ≤ l.length
    · have HF : Hid (bsS l 0 M.toNat = (l.take K, l.drop K, 0)) := by show _ = _; rw [hK, Int.toNat_natCast, bsS, if_pos rfl, if_pos hk]
      have ht : (l.take K).length = K := by rw [List.length_take]; omega
      have HT : Hid ((l.take K).length = K) := ht
      have hK0 : N < 0 ∧ K = 0 ∨ N = 0 ∧ K = 0 ∨ 0 < N ∧ N = K := by omega
      clear hK ht hM
      rcases hK0 with ⟨h1, rfl⟩ | ⟨rfl, rfl⟩ | ⟨h1, rfl⟩
      all_goals
        go_enter Try.func26, Try.ntmps26
        go_wp2_with fail
        refine (take_rd B _ l w HR.out hk).mono ?_
        rintro r w1 ⟨a1, cap1, rfl, hR1, hg1, i1⟩
        go_wp2_with fail
        refine (clone_any a1 _ cap1 _ w1 i1 HT.out (by rw [List.length_take]; omega)).mono ?_
        rintro r w2 ⟨a2, cap2, rfl, hF2, b2⟩
        go_wp2
        go_ret
        rw [HF.out]
        refine ⟨a2, cap2, ret_slice HT.out.symm, ?_, rd_keep hR1 b2, grown_then hg1 b2⟩
        rcases hF2 with h | ⟨g, e1, e2, e3⟩
        · exact .inl h
        · refine .inr ⟨g, e1, Nat.le_trans hg1.size e2, ?_⟩
          obtain ⟨q1, q2⟩ := e3
          refine ⟨q1, ?_⟩
          rcases q2 with q2 | ⟨g', c', cur, r1, r2, r3⟩
          · exact .inl q2
          · exact .inr ⟨g', c', cur, r1, Nat.le_trans hg1.size r2, r3⟩
    · have HF : Hid (bsS l 0 M.toNat = ([], l, 3)) := by show _ = _; rw [hK, Int.toNat_natCast, bsS, if_pos rfl, if_neg hk]
      have hN : 0 < N ∧ N = K := by omega
      obtain ⟨h1, rfl⟩ := hN
      clear hK hM
      go_enter Try.func26, Try.ntmps26
      go_wp2_with fail
      refine (take_over B l _ w HR.out (by omega)).mono ?_
      rintro r w1 ⟨rfl, hR1, hg1⟩
      go_wp2_with fail
      refine (clone_nil 0 0 _).mono ?_
      rintro r w' ⟨rfl, rfl⟩
      go_wp2
      go_ret
      rw [HF.out]
      exact ⟨none, 0, rfl, .inl rfl, hR1, hg1⟩
  · obtain ⟨a, cap, c1, c2, c3, c4, _, _, _⟩ := isB_of_rd h
    refine (bytes_fault B e N w c2 (by rw [bne_iff_ne]; exact he)).mono ?_
    rintro r w' ⟨rfl, rfl⟩
    rw [bsS, if_neg he]
    exact ⟨none, 0, rfl, .inl rfl, h, World.grownBy.refl _ _⟩
end Go.Proofs.Ytdhamfhicdcdgaa
