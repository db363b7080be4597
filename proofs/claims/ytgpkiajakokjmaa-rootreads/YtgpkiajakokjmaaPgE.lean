/- Layer 18: End of both readers. -/
import Derived.Test.YtgpkiajakokjmaaKdC
import Derived.Test.YtgpkiajakokjmaaKdD
namespace Go.Proofs.Ytgpkiajakokjmaa
open Go.RowKit
set_option linter.unusedVariables false
set_option maxRecDepth 4000

theorem end_long (B : Nat) (a : Option Addr) (n cap : Nat) (w : World) (h0 : w.cell? ⟨B, 0, none⟩ = some (.slice a n cap)) (h : w.cell? ⟨B, 1, none⟩ = some (.int .i64 0)) (hn : (0 : Int) < (n : Int)) :
    Calls Try.prog 38 #[.pointer (some ⟨B, 0, none⟩)] w fun r w' => r = .returned (.int .i64 6) ∧ w = w' := by
  go_enter Try.func38, Try.ntmps38
  go_wp2_with (go_at_call 53; refine (left_ok B a n cap _ h0 h).mono ?_; rintro r w' ⟨rfl, rfl⟩)
  go_ret
  exact ⟨rfl, rfl⟩
theorem end_ok (B : Nat) (a : Option Addr) (cap : Nat) (w : World) (h0 : w.cell? ⟨B, 0, none⟩ = some (.slice a 0 cap)) (h : w.cell? ⟨B, 1, none⟩ = some (.int .i64 0)) :
    Calls Try.prog 38 #[.pointer (some ⟨B, 0, none⟩)] w fun r w' => r = .returned (.int .i64 0) ∧ w = w' := by
  go_enter Try.func38, Try.ntmps38
  go_wp2_with (first
    | (go_at_call 53; refine (left_ok B a 0 cap _ h0 h).mono ?_; rintro r w' ⟨rfl, rfl⟩)
    | (go_at_call 49; refine (err_two B 0 _ h).mono ?_; rintro r w' ⟨rfl, rfl⟩))
  go_ret
  exact ⟨rfl, rfl⟩
theorem end_fault (B : Nat) (e : Int) (w : World) (h : w.cell? ⟨B, 1, none⟩ = some (.int .i64 e)) (he : (e != 0) = true) :
    Calls Try.prog 38 #[.pointer (some ⟨B, 0, none⟩)] w fun r w' => r = .returned (.int .i64 e) ∧ w = w' := by
  go_enter Try.func38, Try.ntmps38
  go_wp2_with (first
    | (go_at_call 53; refine (left_fault B e _ h he).mono ?_; rintro r w' ⟨rfl, rfl⟩)
    | (go_at_call 49; refine (err_two B e _ h).mono ?_; rintro r w' ⟨rfl, rfl⟩))
  go_ret
  exact ⟨rfl, rfl⟩
theorem end_nil (w : World) :
    Calls Try.prog 38 #[.pointer none] w fun r w' => r = .returned (.int .i64 1) ∧ w = w' := by
  go_enter Try.func38, Try.ntmps38
  go_wp2_with (first
    | (go_at_call 53; refine (left_nil _).mono ?_; rintro r w' ⟨rfl, rfl⟩)
    | (go_at_call 49; refine (err_nil _).mono ?_; rintro r w' ⟨rfl, rfl⟩))
  go_ret
  exact ⟨rfl, rfl⟩
def endV (l : List Int) (e : Int) : Int := if e = 0 then (if l.length = 0 then 0 else 6) else e
theorem rend_any (lo M : Nat) (l : List Int) (e : Int) (w : World) (h : RfAt w lo M l e) :
    Calls Try.prog 40 #[.pointer (some ⟨M, 0, none⟩)] w fun r w' => r = .returned (.int .i64 (endV l e)) ∧ w = w' := by
  obtain ⟨a, cap, c1, c2, c3, c4, _, _, _⟩ := rf_parts h
  clear h
  by_cases he : e = 0
  · subst he
    by_cases hl : l.length = 0
    · rw [hl] at c1
      have HL : Hid (l.length = 0) := hl
      clear hl
      go_enter Try.func40, Try.ntmps40
      go_wp2
      go_ret
      exact ⟨ret_int (by rw [endV, if_pos rfl, if_pos HL.out]), rfl⟩
    · have hl' : (0 : Int) < (l.length : Int) := by omega
      go_enter Try.func40, Try.ntmps40
      go_wp2
      go_ret
      exact ⟨ret_int (by rw [endV, if_pos rfl, if_neg hl]), rfl⟩
  · have hq : (e == 0) = false := by rw [beq_eq_false_iff_ne]; exact he
    go_enter Try.func40, Try.ntmps40
    go_wp2
    go_ret
    exact ⟨ret_int (by rw [endV, if_neg he]), rfl⟩
theorem end_any (B : Nat) (l : List Int) (e : Int) (w : World) (h : RdAt w B l e) :
    Calls Try.prog 38 #[.pointer (some ⟨B, 0, none⟩)] w fun r w' => r = .returned (.int .i64 (endV l e)) ∧ w = w' := by
  obtain ⟨a, cap, c1, c2, c3, c4, _, _, _⟩ := isB_of_rd h
  by_cases he : e = 0
  · subst he
    by_cases hl : l.length = 0
    · rw [endV, if_pos rfl, if_pos hl]
      rw [hl] at c1
      exact end_ok B a cap w c1 c2
    · rw [endV, if_pos rfl, if_neg hl]
      exact end_long B a l.length cap w c1 c2 (by omega)
  · rw [endV, if_neg he]
    exact end_fault B e w c2 (by rw [bne_iff_ne]; exact he)
end Go.Proofs.Ytgpkiajakokjmaa
