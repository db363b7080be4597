/- The document's reader: what its calls answer, and what becomes of it. -/
import Derived.Test.YtdhamfhicdcdgaaNumFx
namespace Go.Proofs.Ytdhamfhicdcdgaa
open Go.RowKit
set_option linter.unusedVariables false

/-- The document's reader lies in block M; its bytes lie between the blocks lo and M. -/
def RfAt (w : World) (lo M : Nat) (l : List Int) (e : Int) : Prop :=
  ∃ a cap, w.heap[M]? = some (.cells #[.slice a l.length cap, .int .i64 e] 38 (0, 0)) ∧ l.length ≤ cap ∧ cap ≤ maxLen ∧ (∀ x ∈ l, 0 ≤ x ∧ x ≤ 255) ∧
    (l = [] ∨ ∃ b off, a = some ⟨b, off, none⟩ ∧ lo < b ∧ b < M ∧ ∀ i, i < l.length → w.cell? ⟨b, off + i, none⟩ = some (.int .u8 (l.getD i 0)))

def failV (e x : Int) : Int := if e = 0 then x else e
def leftV (l : List Int) (e : Int) : Int := if e = 0 then (l.length : Int) else 0
def endV (l : List Int) (e : Int) : Int := if e = 0 then (if l.length = 0 then 0 else 6) else e

theorem rf_parts {w : World} {lo M : Nat} {l : List Int} {e : Int} (h : RfAt w lo M l e) : ∃ a cap, w.cell? ⟨M, 0, none⟩ = some (.slice a l.length cap) ∧ w.cell? ⟨M, 1, none⟩ = some (.int .i64 e) ∧ w.frozen? ⟨M, 0, none⟩ = false ∧ w.frozen? ⟨M, 1, none⟩ = false ∧ IsB w a l ∧ l.length ≤ cap ∧ cap ≤ maxLen := by
  obtain ⟨a, cap, hh, h1, h2, h3, h4⟩ := h
  obtain ⟨c1, c2, c3, c4⟩ := cell_two hh
  refine ⟨a, cap, c1, c2, c3, c4, ⟨h3, ?_⟩, h1, h2⟩
  rcases h4 with h4 | ⟨b, off, e1, _, e2, e3⟩
  · exact .inl h4
  · exact .inr ⟨b, off, e1, by have := lt_of_block hh; omega, e3⟩

theorem rf_set {w : World} {lo M : Nat} {l : List Int} {e : Int} (h : RfAt w lo M l e) (x : Int) : RfAt (w.setCell ⟨M, 1, none⟩ (.int .i64 x)) lo M l x := by
  obtain ⟨a, cap, hh, h1, h2, h3, h4⟩ := h
  refine ⟨a, cap, two_set1 hh, h1, h2, h3, ?_⟩
  rcases h4 with h4 | ⟨b, off, e1, e0, e2, e3⟩
  · exact .inl h4
  · exact .inr ⟨b, off, e1, e0, e2, fun i hi => by rw [cell_far _ _ _ _ _ _ (by omega)]; exact e3 i hi⟩

/-- What is left is cut at k: the cells as they are found behind the store. -/
theorem rf_cut {w : World} {lo M b off cap k : Nat} {l : List Int} {a' : Option Addr} (hh : w.heap[M]? = some (.cells #[.slice (some ⟨b, off, none⟩) l.length cap, .int .i64 0] 38 (0, 0))) (h1 : l.length ≤ cap) (h2 : cap ≤ maxLen) (h3 : ∀ x ∈ l, 0 ≤ x ∧ x ≤ 255) (hlo : lo < b) (hbM : b < M) (hc : ∀ i, i < l.length → w.cell? ⟨b, off + i, none⟩ = some (.int .u8 (l.getD i 0))) (hk : k ≤ l.length) (ha : l.length = k ∨ a' = some ⟨b, off + k, none⟩) :
    RfAt (w.setCell ⟨M, 0, none⟩ (.slice a' (l.length - k) (cap - k))) lo M (l.drop k) 0 := by
  refine ⟨a', cap - k, ?_, by simp; omega, by omega, fun x hx => h3 x (List.mem_of_mem_drop hx), ?_⟩
  · rw [List.length_drop]
    exact two_set0 hh
  · rcases ha with ha | ha
    · exact .inl (List.drop_eq_nil_of_le (by omega))
    · refine .inr ⟨b, off + k, ha, hlo, hbM, fun i hi => ?_⟩
      rw [List.length_drop] at hi
      rw [cell_far _ _ _ _ _ _ (by omega), Nat.add_assoc, hc (k + i) (by omega)]
      simp [List.getD]

theorem rfail_any (lo M : Nat) (l : List Int) (e x : Int) (w : World) (h : RfAt w lo M l e) :
    Calls Try.prog 29 #[.pointer (some ⟨M, 0, none⟩), .int .i64 x] w fun r w' => r = .returned (.tuple #[]) ∧ RfAt w' lo M l (failV e x) ∧ w.grownBy w' (some M) := by
  obtain ⟨a, cap, c1, c2, c3, c4, _, _, _⟩ := rf_parts h
  have HR : Hid (RfAt w lo M l e) := h
  clear h
  by_cases he : e = 0
  · subst he
    go_enter Try.func29, Try.ntmps29
    go_wp2
    go_end0
    rw [failV, if_pos rfl]
    exact ⟨rfl, rf_set HR.out x, grown_set _ _ _⟩
  · have hq : (e == 0) = false := by rw [beq_eq_false_iff_ne]; exact he
    go_enter Try.func29, Try.ntmps29
    go_wp2
    go_end0
    rw [failV, if_neg he]
    exact ⟨rfl, HR.out, World.grownBy.refl _ _⟩

theorem rrest_any (lo M : Nat) (l : List Int) (e : Int) (w : World) (h : RfAt w lo M l e) :
    Calls Try.prog 31 #[.pointer (some ⟨M, 0, none⟩)] w fun r w' => r = .returned (.int .i64 (leftV l e)) ∧ w = w' := by
  obtain ⟨a, cap, c1, c2, c3, c4, _, _, _⟩ := rf_parts h
  clear h
  by_cases he : e = 0
  · subst he
    go_enter Try.func31, Try.ntmps31
    go_wp2
    go_ret
    exact ⟨ret_int (by rw [leftV, if_pos rfl]), rfl⟩
  · have hq : (e != 0) = true := by rw [bne_iff_ne]; exact he
    go_enter Try.func31, Try.ntmps31
    go_wp2
    go_ret
    exact ⟨ret_int (by rw [leftV, if_neg he]), rfl⟩

theorem rend_any (lo M : Nat) (l : List Int) (e : Int) (w : World) (h : RfAt w lo M l e) :
    Calls Try.prog 34 #[.pointer (some ⟨M, 0, none⟩)] w fun r w' => r = .returned (.int .i64 (endV l e)) ∧ w = w' := by
  obtain ⟨a, cap, c1, c2, c3, c4, _, _, _⟩ := rf_parts h
  clear h
  by_cases he : e = 0
  · subst he
    by_cases hl : l.length = 0
    · rw [hl] at c1
      have HL : Hid (l.length = 0) := hl
      clear hl
      go_enter Try.func34, Try.ntmps34
      go_wp2
      go_ret
      exact ⟨ret_int (by rw [endV, if_pos rfl, if_pos HL.out]), rfl⟩
    · have hl' : (0 : Int) < (l.length : Int) := by omega
      go_enter Try.func34, Try.ntmps34
      go_wp2
      go_ret
      exact ⟨ret_int (by rw [endV, if_pos rfl, if_neg hl]), rfl⟩
  · have hq : (e == 0) = false := by rw [beq_eq_false_iff_ne]; exact he
    go_enter Try.func34, Try.ntmps34
    go_wp2
    go_ret
    exact ⟨ret_int (by rw [endV, if_neg he]), rfl⟩

theorem left_any (B : Nat) (l : List Int) (e : Int) (w : World) (h : RdAt w B l e) :
    Calls Try.prog 30 #[.pointer (some ⟨B, 0, none⟩)] w fun r w' => r = .returned (.int .i64 (leftV l e)) ∧ w = w' := by
  obtain ⟨a, cap, c1, c2, c3, c4, _, _, _⟩ := isB_of_rd h
  by_cases he : e = 0
  · subst he
    rw [leftV, if_pos rfl]
    exact left_ok B a l.length cap w c1 c2
  · rw [leftV, if_neg he]
    exact left_fault B e w c2 (by rw [bne_iff_ne]; exact he)

theorem end_any (B : Nat) (l : List Int) (e : Int) (w : World) (h : RdAt w B l e) :
    Calls Try.prog 33 #[.pointer (some ⟨B, 0, none⟩)] w fun r w' => r = .returned (.int .i64 (endV l e)) ∧ w = w' := by
  obtain ⟨a, cap, c1, c2, c3, c4, _, _, _⟩ := isB_of_rd h
  by_cases he : e = 0
  · subst he
    by_cases hl : l.length = 0
    · rw [endV, if_pos rfl, if_pos hl]
      rw [hl] at c1
      exact end_ok B a cap w c1 c2
    · rw [endV, if_pos rfl, if_neg hl]
      exact end_long B a l.length cap w c1 c2 (by omega)
  · rw [endV, if_neg he]
    exact end_fault B e w c2 (by rw [bne_iff_ne]; exact he)

theorem err_any (B : Nat) (l : List Int) (e : Int) (w : World) (h : RdAt w B l e) :
    Calls Try.prog 32 #[.pointer (some ⟨B, 0, none⟩)] w fun r w' => r = .returned (.int .i64 e) ∧ w = w' := by
  obtain ⟨a, cap, c1, c2, c3, c4, _, _, _⟩ := isB_of_rd h
  exact err_two B e w c2

theorem fail_any (B : Nat) (l : List Int) (e x : Int) (w : World) (h : RdAt w B l e) :
    Calls Try.prog 28 #[.pointer (some ⟨B, 0, none⟩), .int .i64 x] w fun r w' => r = .returned (.tuple #[]) ∧ RdAt w' B l (failV e x) ∧ w.grownBy w' (some B) := by
  obtain ⟨a, cap, c1, c2, c3, c4, _, _, _⟩ := isB_of_rd h
  by_cases he : e = 0
  · subst he
    refine (fail_first B x w c2 c4).mono ?_
    rintro r w' ⟨rfl, rfl⟩
    rw [failV, if_pos rfl]
    exact ⟨rfl, rd_fault h x, grown_set _ _ _⟩
  · refine (fail_more B x e w c2 (by rw [beq_eq_false_iff_ne]; exact he)).mono ?_
    rintro r w' ⟨rfl, rfl⟩
    rw [failV, if_neg he]
    exact ⟨rfl, h, World.grownBy.refl _ _⟩
end Go.Proofs.Ytdhamfhicdcdgaa
