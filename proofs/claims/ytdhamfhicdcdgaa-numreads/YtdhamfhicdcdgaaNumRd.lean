/- The reader's small calls: Err, Fail, Left, End, take. -/
import Derived.Test.YtdhamfhicdcdgaaNumVar
namespace Go.Proofs.Ytdhamfhicdcdgaa
open Go.RowKit
set_option linter.unusedVariables false

/-- A reader lies in block B: what is left, and the fault. Its bytes lie in an earlier block. -/
def RdAt (w : World) (B : Nat) (l : List Int) (e : Int) : Prop :=
  ∃ a cap, w.heap[B]? = some (.cells #[.slice a l.length cap, .int .i64 e] 60 (0, 0)) ∧ l.length ≤ cap ∧ cap ≤ maxLen ∧ (∀ x ∈ l, 0 ≤ x ∧ x ≤ 255) ∧
    (l = [] ∨ ∃ b off, a = some ⟨b, off, none⟩ ∧ b < B ∧ ∀ i, i < l.length → w.cell? ⟨b, off + i, none⟩ = some (.int .u8 (l.getD i 0)))

theorem cell_two {w : World} {B : Nat} {x y : Value} {t : TypeId} (h : w.heap[B]? = some (.cells #[x, y] t (0, 0))) :
    w.cell? ⟨B, 0, none⟩ = some x ∧ w.cell? ⟨B, 1, none⟩ = some y ∧ w.frozen? ⟨B, 0, none⟩ = false ∧ w.frozen? ⟨B, 1, none⟩ = false := by
  simp [World.cell?, World.frozen?, h]

theorem err_two (B : Nat) (e : Int) (w : World) (h : w.cell? ⟨B, 1, none⟩ = some (.int .i64 e)) :
    Calls Try.prog 32 #[.pointer (some ⟨B, 0, none⟩)] w fun r w' => r = .returned (.int .i64 e) ∧ w = w' := by
  go_enter Try.func32, Try.ntmps32
  go_wp2
  go_ret
  exact ⟨rfl, rfl⟩

theorem err_nil (w : World) :
    Calls Try.prog 32 #[.pointer none] w fun r w' => r = .returned (.int .i64 1) ∧ w = w' := by
  go_enter Try.func32, Try.ntmps32
  go_wp2
  go_ret
  exact ⟨rfl, rfl⟩

theorem fail_first (B : Nat) (x : Int) (w : World) (h : w.cell? ⟨B, 1, none⟩ = some (.int .i64 0)) (hf : w.frozen? ⟨B, 1, none⟩ = false) :
    Calls Try.prog 28 #[.pointer (some ⟨B, 0, none⟩), .int .i64 x] w fun r w' => r = .returned (.tuple #[]) ∧ w' = w.setCell ⟨B, 1, none⟩ (.int .i64 x) := by
  go_enter Try.func28, Try.ntmps28
  go_wp2_with (go_at_call 32; refine (err_two B 0 _ h).mono ?_; rintro r w' ⟨rfl, rfl⟩)
  go_end0
  exact ⟨rfl, rfl⟩

theorem fail_more (B : Nat) (x e : Int) (w : World) (h : w.cell? ⟨B, 1, none⟩ = some (.int .i64 e)) (he : (e == 0) = false) :
    Calls Try.prog 28 #[.pointer (some ⟨B, 0, none⟩), .int .i64 x] w fun r w' => r = .returned (.tuple #[]) ∧ w = w' := by
  go_enter Try.func28, Try.ntmps28
  go_wp2_with (go_at_call 32; refine (err_two B e _ h).mono ?_; rintro r w' ⟨rfl, rfl⟩)
  go_end0
  exact ⟨rfl, rfl⟩

theorem fail_nil (x : Int) (w : World) :
    Calls Try.prog 28 #[.pointer none, .int .i64 x] w fun r w' => r = .returned (.tuple #[]) ∧ w = w' := by
  go_enter Try.func28, Try.ntmps28
  go_wp2_with (go_at_call 32; refine (err_nil _).mono ?_; rintro r w' ⟨rfl, rfl⟩)
  go_end0
  exact ⟨rfl, rfl⟩

theorem left_ok (B : Nat) (a : Option Addr) (n cap : Nat) (w : World) (h0 : w.cell? ⟨B, 0, none⟩ = some (.slice a n cap)) (h : w.cell? ⟨B, 1, none⟩ = some (.int .i64 0)) :
    Calls Try.prog 30 #[.pointer (some ⟨B, 0, none⟩)] w fun r w' => r = .returned (.int .i64 n) ∧ w = w' := by
  go_enter Try.func30, Try.ntmps30
  go_wp2_with (go_at_call 32; refine (err_two B 0 _ h).mono ?_; rintro r w' ⟨rfl, rfl⟩)
  go_ret
  exact ⟨rfl, rfl⟩

theorem left_fault (B : Nat) (e : Int) (w : World) (h : w.cell? ⟨B, 1, none⟩ = some (.int .i64 e)) (he : (e != 0) = true) :
    Calls Try.prog 30 #[.pointer (some ⟨B, 0, none⟩)] w fun r w' => r = .returned (.int .i64 0) ∧ w = w' := by
  go_enter Try.func30, Try.ntmps30
  go_wp2_with (go_at_call 32; refine (err_two B e _ h).mono ?_; rintro r w' ⟨rfl, rfl⟩)
  go_ret
  exact ⟨rfl, rfl⟩

theorem left_nil (w : World) :
    Calls Try.prog 30 #[.pointer none] w fun r w' => r = .returned (.int .i64 0) ∧ w = w' := by
  go_enter Try.func30, Try.ntmps30
  go_wp2_with (go_at_call 32; refine (err_nil _).mono ?_; rintro r w' ⟨rfl, rfl⟩)
  go_ret
  exact ⟨rfl, rfl⟩

theorem end_long (B : Nat) (a : Option Addr) (n cap : Nat) (w : World) (h0 : w.cell? ⟨B, 0, none⟩ = some (.slice a n cap)) (h : w.cell? ⟨B, 1, none⟩ = some (.int .i64 0)) (hn : (0 : Int) < (n : Int)) :
    Calls Try.prog 33 #[.pointer (some ⟨B, 0, none⟩)] w fun r w' => r = .returned (.int .i64 6) ∧ w = w' := by
  go_enter Try.func33, Try.ntmps33
  go_wp2_with (go_at_call 30; refine (left_ok B a n cap _ h0 h).mono ?_; rintro r w' ⟨rfl, rfl⟩)
  go_ret
  exact ⟨rfl, rfl⟩

theorem end_ok (B : Nat) (a : Option Addr) (cap : Nat) (w : World) (h0 : w.cell? ⟨B, 0, none⟩ = some (.slice a 0 cap)) (h : w.cell? ⟨B, 1, none⟩ = some (.int .i64 0)) :
    Calls Try.prog 33 #[.pointer (some ⟨B, 0, none⟩)] w fun r w' => r = .returned (.int .i64 0) ∧ w = w' := by
  go_enter Try.func33, Try.ntmps33
  go_wp2_with (first
    | (go_at_call 30; refine (left_ok B a 0 cap _ h0 h).mono ?_; rintro r w' ⟨rfl, rfl⟩)
    | (go_at_call 32; refine (err_two B 0 _ h).mono ?_; rintro r w' ⟨rfl, rfl⟩))
  go_ret
  exact ⟨rfl, rfl⟩

theorem end_fault (B : Nat) (e : Int) (w : World) (h : w.cell? ⟨B, 1, none⟩ = some (.int .i64 e)) (he : (e != 0) = true) :
    Calls Try.prog 33 #[.pointer (some ⟨B, 0, none⟩)] w fun r w' => r = .returned (.int .i64 e) ∧ w = w' := by
  go_enter Try.func33, Try.ntmps33
  go_wp2_with (first
    | (go_at_call 30; refine (left_fault B e _ h he).mono ?_; rintro r w' ⟨rfl, rfl⟩)
    | (go_at_call 32; refine (err_two B e _ h).mono ?_; rintro r w' ⟨rfl, rfl⟩))
  go_ret
  exact ⟨rfl, rfl⟩

theorem end_nil (w : World) :
    Calls Try.prog 33 #[.pointer none] w fun r w' => r = .returned (.int .i64 1) ∧ w = w' := by
  go_enter Try.func33, Try.ntmps33
  go_wp2_with (first
    | (go_at_call 30; refine (left_nil _).mono ?_; rintro r w' ⟨rfl, rfl⟩)
    | (go_at_call 32; refine (err_nil _).mono ?_; rintro r w' ⟨rfl, rfl⟩))
  go_ret
  exact ⟨rfl, rfl⟩

theorem take_fault (B : Nat) (e k : Int) (w : World) (h : w.cell? ⟨B, 1, none⟩ = some (.int .i64 e)) (he : (e != 0) = true) :
    Calls Try.prog 39 #[.pointer (some ⟨B, 0, none⟩), .int .i64 k] w fun r w' => r = .returned (.slice none 0 0) ∧ w = w' := by
  go_enter Try.func39, Try.ntmps39
  go_wp2_with (go_at_call 32; refine (err_two B e _ h).mono ?_; rintro r w' ⟨rfl, rfl⟩)
  go_ret
  exact ⟨rfl, rfl⟩

theorem take_nil (k : Int) (w : World) :
    Calls Try.prog 39 #[.pointer none, .int .i64 k] w fun r w' => r = .returned (.slice none 0 0) ∧ w = w' := by
  go_enter Try.func39, Try.ntmps39
  go_wp2_with (go_at_call 32; refine (err_nil _).mono ?_; rintro r w' ⟨rfl, rfl⟩)
  go_ret
  exact ⟨rfl, rfl⟩

theorem take_short (B : Nat) (a : Option Addr) (n cap : Nat) (k : Int) (w : World) (h0 : w.cell? ⟨B, 0, none⟩ = some (.slice a n cap)) (h : w.cell? ⟨B, 1, none⟩ = some (.int .i64 0)) (hf : w.frozen? ⟨B, 1, none⟩ = false) (hk : (n : Int) < k) :
    Calls Try.prog 39 #[.pointer (some ⟨B, 0, none⟩), .int .i64 k] w fun r w' => r = .returned (.slice none 0 0) ∧ w' = w.setCell ⟨B, 1, none⟩ (.int .i64 3) := by
  go_enter Try.func39, Try.ntmps39
  go_wp2_with (first
    | (go_at_call 32; refine (err_two B 0 _ h).mono ?_; rintro r w' ⟨rfl, rfl⟩)
    | (go_at_call 28; refine (fail_first B 3 _ h hf).mono ?_; rintro r w' ⟨rfl, rfl⟩))
  go_ret
  exact ⟨rfl, rfl⟩

theorem take_some (B b off n cap k : Nat) (w : World) (h0 : w.cell? ⟨B, 0, none⟩ = some (.slice (some ⟨b, off, none⟩) n cap)) (h : w.cell? ⟨B, 1, none⟩ = some (.int .i64 0)) (hf : w.frozen? ⟨B, 0, none⟩ = false) (hk : k ≤ n) (hc : n ≤ cap) (hm : cap ≤ maxLen) :
    Calls Try.prog 39 #[.pointer (some ⟨B, 0, none⟩), .int .i64 k] w fun r w' => r = .returned (.slice (some ⟨b, off, none⟩) k cap) ∧ ∃ a', w' = w.setCell ⟨B, 0, none⟩ (.slice a' (n - k) (cap - k)) ∧ (n = k ∨ a' = some ⟨b, off + k, none⟩) := by
  unfold maxLen at hm
  by_cases hck : cap = k
  · subst hck
    obtain rfl : n = cap := by omega
    go_enter Try.func39, Try.ntmps39
    go_wp2_with (go_at_call 32; refine (err_two B 0 _ h).mono ?_; rintro r w' ⟨rfl, rfl⟩)
    go_ret
    exact ⟨rfl, some ⟨b, off, none⟩, by simp, by simp⟩
  · go_enter Try.func39, Try.ntmps39
    go_wp2_with (go_at_call 32; refine (err_two B 0 _ h).mono ?_; rintro r w' ⟨rfl, rfl⟩)
    go_ret
    exact ⟨rfl, some ⟨b, off + k, none⟩, rfl, .inr rfl⟩

theorem take_none (B cap : Nat) (a : Option Addr) (w : World) (h0 : w.cell? ⟨B, 0, none⟩ = some (.slice a 0 cap)) (h : w.cell? ⟨B, 1, none⟩ = some (.int .i64 0)) (hf : w.frozen? ⟨B, 0, none⟩ = false) (hm : cap ≤ maxLen) :
    Calls Try.prog 39 #[.pointer (some ⟨B, 0, none⟩), .int .i64 0] w fun r w' => r = .returned (.slice a 0 cap) ∧ ∃ a', w' = w.setCell ⟨B, 0, none⟩ (.slice a' 0 cap) := by
  unfold maxLen at hm
  rcases a with _ | ⟨b, off, p⟩
  · go_enter Try.func39, Try.ntmps39
    go_wp2_with (go_at_call 32; refine (err_two B 0 _ h).mono ?_; rintro r w' ⟨rfl, rfl⟩)
    go_ret
    exact ⟨rfl, _, rfl⟩
  · go_enter Try.func39, Try.ntmps39
    go_wp2_with (go_at_call 32; refine (err_two B 0 _ h).mono ?_; rintro r w' ⟨rfl, rfl⟩)
    go_ret
    exact ⟨rfl, _, rfl⟩
end Go.Proofs.Ytdhamfhicdcdgaa
