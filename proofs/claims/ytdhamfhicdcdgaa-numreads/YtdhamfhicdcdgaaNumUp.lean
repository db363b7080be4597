/- What Upto and Var of a reader answer, and what becomes of the reader. -/
import Derived.Test.YtdhamfhicdcdgaaNumOp
import Derived.Test.YtdhamfhicdcdgaaNumP2
namespace Go.Proofs.Ytdhamfhicdcdgaa
open Go.RowKit
set_option linter.unusedVariables false

theorem digits_is (a : Option Addr) (cap : Nat) (l : List Int) (w : World) (h : IsB w a l) (hm : l.length ≤ maxLen) (n : Int) (sz : Nat) (er : Int) (hr : rdL l = (n, sz, er)) :
    Calls Try.prog 40 #[.slice a l.length cap] w fun e w' => e = .returned (.tuple #[.int .u64 n, .int .i64 sz, .int .i64 er]) ∧ w = w' := by
  have := digits_any a cap l w h hm
  rw [hr] at this
  exact this

theorem cell_far (w : World) (B o : Nat) (v : Value) (b i : Nat) (h : b ≠ B) : (w.setCell ⟨B, o, none⟩ v).cell? ⟨b, i, none⟩ = w.cell? ⟨b, i, none⟩ :=
  World.cell?_of_block (w := w) (Below.heap_setCell w ⟨B, o, none⟩ v b h)

theorem two_set0 {w : World} {B : Nat} {x y v : Value} {t : TypeId} (h : w.heap[B]? = some (.cells #[x, y] t (0, 0))) : (w.setCell ⟨B, 0, none⟩ v).heap[B]? = some (.cells #[v, y] t (0, 0)) := by
  have hlt := lt_of_block h
  have h' : w.heap[B] = .cells #[x, y] t (0, 0) := by simpa [Array.getElem?_eq_getElem hlt] using h
  show (w.heap.modify B _)[B]? = _
  rw [Array.getElem?_eq_getElem (by simpa using hlt), Array.getElem_modify_self, h']
  rfl

theorem two_set1 {w : World} {B : Nat} {x y v : Value} {t : TypeId} (h : w.heap[B]? = some (.cells #[x, y] t (0, 0))) : (w.setCell ⟨B, 1, none⟩ v).heap[B]? = some (.cells #[x, v] t (0, 0)) := by
  have hlt := lt_of_block h
  have h' : w.heap[B] = .cells #[x, y] t (0, 0) := by simpa [Array.getElem?_eq_getElem hlt] using h
  show (w.heap.modify B _)[B]? = _
  rw [Array.getElem?_eq_getElem (by simpa using hlt), Array.getElem_modify_self, h']
  rfl

theorem grown_set (w : World) (a : Addr) (v : Value) : w.grownBy (w.setCell a v) (some a.block) :=
  ⟨rfl, rfl, rfl, by show w.heap.size ≤ (w.heap.modify _ _).size; simp, fun k _ hk => Below.heap_setCell w a v k (fun e => hk (by rw [e]))⟩

theorem rd_fault {w : World} {B : Nat} {l : List Int} {e : Int} (h : RdAt w B l e) (x : Int) : RdAt (w.setCell ⟨B, 1, none⟩ (.int .i64 x)) B l x := by
  obtain ⟨a, cap, hh, h1, h2, h3, h4⟩ := h
  refine ⟨a, cap, two_set1 hh, h1, h2, h3, ?_⟩
  rcases h4 with h4 | ⟨b, off, e1, e2, e3⟩
  · exact .inl h4
  · exact .inr ⟨b, off, e1, e2, fun i hi => by rw [cell_far _ _ _ _ _ _ (by omega)]; exact e3 i hi⟩

theorem isB_of_rd {w : World} {B : Nat} {l : List Int} {e : Int} (h : RdAt w B l e) : ∃ a cap, w.cell? ⟨B, 0, none⟩ = some (.slice a l.length cap) ∧ w.cell? ⟨B, 1, none⟩ = some (.int .i64 e) ∧ w.frozen? ⟨B, 0, none⟩ = false ∧ w.frozen? ⟨B, 1, none⟩ = false ∧ IsB w a l ∧ l.length ≤ cap ∧ cap ≤ maxLen := by
  obtain ⟨a, cap, hh, h1, h2, h3, h4⟩ := h
  obtain ⟨c1, c2, c3, c4⟩ := cell_two hh
  refine ⟨a, cap, c1, c2, c3, c4, ⟨h3, ?_⟩, h1, h2⟩
  rcases h4 with h4 | ⟨b, off, e1, e2, e3⟩
  · exact .inl h4
  · exact .inr ⟨b, off, e1, by have := lt_of_block hh; omega, e3⟩

/-- take, of a reader without a fault, of no more than is left: what it answers is the reader's own memory. -/
theorem take_rd (B k : Nat) (l : List Int) (w : World) (h : RdAt w B l 0) (hk : k ≤ l.length) :
    Calls Try.prog 39 #[.pointer (some ⟨B, 0, none⟩), .int .i64 k] w fun r w' => ∃ a cap, r = .returned (.slice a k cap) ∧ RdAt w' B (l.drop k) 0 ∧ w.grownBy w' (some B) ∧ IsB w' a (l.take k) := by
  obtain ⟨a, cap, hh, h1, h2, h3, h4⟩ := h
  obtain ⟨c1, c2, c3, c4⟩ := cell_two hh
  rcases h4 with rfl | ⟨b, off, rfl, hbB, hc⟩
  · obtain rfl : k = 0 := by simpa using hk
    refine (take_none B cap a w c1 c2 c3 h2).mono ?_
    rintro r w' ⟨rfl, a', rfl⟩
    exact ⟨a, cap, rfl, ⟨a', cap, two_set0 hh, h1, h2, h3, .inl rfl⟩, grown_set _ _ _, ⟨by simp, .inl rfl⟩⟩
  · refine (take_some B b off l.length cap k w c1 c2 c3 hk h1 h2).mono ?_
    rintro r w' ⟨rfl, a', rfl, ha⟩
    have hcell : ∀ (v : Value) i, i < l.length → (w.setCell ⟨B, 0, none⟩ v).cell? ⟨b, off + i, none⟩ = some (.int .u8 (l.getD i 0)) := by
      intro v i hi
      rw [cell_far _ _ _ _ _ _ (by omega)]
      exact hc i hi
    have hlt := lt_of_block hh
    refine ⟨_, cap, rfl, ⟨a', cap - k, ?_, by simp; omega, by omega, fun x hx => h3 x (List.mem_of_mem_drop hx), ?_⟩, grown_set _ _ _, fun x hx => h3 x (List.mem_of_mem_take hx), ?_⟩
    · rw [List.length_drop]
      exact two_set0 hh
    · rcases ha with ha | ha
      · exact .inl (List.drop_eq_nil_of_le (by omega))
      · refine .inr ⟨b, off + k, ha, hbB, fun i hi => ?_⟩
        rw [List.length_drop] at hi
        have := hcell (.slice a' (l.length - k) (cap - k)) (k + i) (by omega)
        rw [Nat.add_assoc, this]
        simp [List.getD]
    · refine .inr ⟨b, off, rfl, by show b < (w.heap.modify _ _).size; simp; omega, fun i hi => ?_⟩
      rw [List.length_take] at hi
      rw [hcell _ i (by omega)]
      simp [List.getD, show i < k by omega]

set_option maxHeartbeats 1000000 in
theorem upto_any (B : Nat) (l : List Int) (e most : Int) (w : World) (h : RdAt w B l e) :
    Calls Try.prog 24 #[.pointer (some ⟨B, 0, none⟩), .int .u64 most] w fun r w' => r = .returned (.int .u64 (upS l e most).1) ∧ RdAt w' B (upS l e most).2.1 (upS l e most).2.2 ∧ w.grownBy w' (some B) := by
  obtain ⟨a, cap, c1, c2, c3, c4, hB, hc, hm⟩ := isB_of_rd h
  by_cases he : e = 0
  · subst he
    have hF := rdL_facts l hB.1
    obtain ⟨n, sz, er, hr⟩ : ∃ n sz er, rdL l = (n, sz, er) := ⟨_, _, _, rfl⟩
    rw [hr] at hF
    dsimp only at hF
    have HU : upS l 0 most = if er = 0 then (if n ≤ most then (n, l.drop sz, 0) else (0, l, 4)) else (0, l, er) := by rw [upS, if_pos rfl, hr]
    have HR : Hid (rdL l = (n, sz, er)) := hr
    have HRd : Hid (RdAt w B l 0) := h
    have HB : Hid (IsB w a l) := hB
    clear hr h hB
    rcases hF with ⟨rfl, n0, n1, s1, s2⟩ | ⟨he, rfl, rfl⟩
    · by_cases hle : n ≤ most
      · rw [if_pos rfl, if_pos hle] at HU
        have HU' : Hid (upS l 0 most = (n, l.drop sz, 0)) := HU
        clear HU
        go_enter Try.func24, Try.ntmps24
        go_wp2_with (first
          | (go_at_call 32; refine (err_two B 0 _ c2).mono ?_; rintro r w' ⟨rfl, rfl⟩)
          | (go_at_call 40; refine (digits_is a cap l _ HB.out (by omega) n sz 0 HR.out).mono ?_; rintro r w' ⟨rfl, rfl⟩)
          | (go_at_call 39; refine (take_rd B sz l _ HRd.out s2).mono ?_; rintro r w1 ⟨a1, cap1, rfl, hR1, hg1, _⟩))
        go_ret
        rw [HU'.out]
        exact ⟨rfl, hR1, hg1⟩
      · rw [if_pos rfl, if_neg hle] at HU
        have HU' : Hid (upS l 0 most = (0, l, 4)) := HU
        clear HU
        go_enter Try.func24, Try.ntmps24
        go_wp2_with (first
          | (go_at_call 32; refine (err_two B 0 _ c2).mono ?_; rintro r w' ⟨rfl, rfl⟩)
          | (go_at_call 40; refine (digits_is a cap l _ HB.out (by omega) n sz 0 HR.out).mono ?_; rintro r w' ⟨rfl, rfl⟩)
          | (go_at_call 28; refine (fail_first B 4 _ c2 c4).mono ?_; rintro r w' ⟨rfl, rfl⟩))
        go_ret
        rw [HU'.out]
        exact ⟨rfl, rd_fault HRd.out 4, grown_set _ _ _⟩
    · have hq : (er == 0) = false := by rw [beq_eq_false_iff_ne]; omega
      have hq' : (er != 0) = true := by rw [bne_iff_ne]; omega
      rw [if_neg (by omega)] at HU
      have HU' : Hid (upS l 0 most = (0, l, er)) := HU
      clear HU
      go_enter Try.func24, Try.ntmps24
      go_wp2_with (first
        | (go_at_call 32; refine (err_two B 0 _ c2).mono ?_; rintro r w' ⟨rfl, rfl⟩)
        | (go_at_call 40; refine (digits_is a cap l _ HB.out (by omega) 0 0 er HR.out).mono ?_; rintro r w' ⟨rfl, rfl⟩)
        | (go_at_call 28; refine (fail_first B er _ c2 c4).mono ?_; rintro r w' ⟨rfl, rfl⟩))
      go_ret
      rw [HU'.out]
      exact ⟨rfl, rd_fault HRd.out er, grown_set _ _ _⟩
  · have hq' : (e != 0) = true := by rw [bne_iff_ne]; exact he
    have HRd : Hid (RdAt w B l e) := h
    have HU : Hid (upS l e most = (0, l, e)) := by show _ = _; rw [upS, if_neg he]
    clear h hB
    go_enter Try.func24, Try.ntmps24
    go_wp2_with (go_at_call 32; refine (err_two B e _ c2).mono ?_; rintro r w' ⟨rfl, rfl⟩)
    go_ret
    rw [HU.out]
    exact ⟨rfl, HRd.out, World.grownBy.refl _ _⟩

theorem upto_nil (most : Int) (w : World) :
    Calls Try.prog 24 #[.pointer none, .int .u64 most] w fun r w' => r = .returned (.int .u64 0) ∧ w = w' := by
  go_enter Try.func24, Try.ntmps24
  go_wp2_with (go_at_call 32; refine (err_nil _).mono ?_; rintro r w' ⟨rfl, rfl⟩)
  go_ret
  exact ⟨rfl, rfl⟩

theorem rvar_any (B : Nat) (l : List Int) (e : Int) (w : World) (h : RdAt w B l e) :
    Calls Try.prog 22 #[.pointer (some ⟨B, 0, none⟩)] w fun r w' => r = .returned (.int .u64 (upS l e 18446744073709551615).1) ∧ RdAt w' B (upS l e 18446744073709551615).2.1 (upS l e 18446744073709551615).2.2 ∧ w.grownBy w' (some B) := by
  have HRd : Hid (RdAt w B l e) := h
  clear h
  go_enter Try.func22, Try.ntmps22
  go_wp2_with (go_at_call 24; refine (upto_any B l e _ _ HRd.out).mono ?_; rintro r w1 ⟨rfl, hR, hg⟩)
  go_ret
  exact ⟨rfl, hR, hg⟩

theorem rvar_nil (w : World) :
    Calls Try.prog 22 #[.pointer none] w fun r w' => r = .returned (.int .u64 0) ∧ w = w' := by
  go_enter Try.func22, Try.ntmps22
  go_wp2_with (go_at_call 24; refine (upto_nil _ _).mono ?_; rintro r w1 ⟨rfl, rfl⟩)
  go_ret
  exact ⟨rfl, rfl⟩
end Go.Proofs.Ytdhamfhicdcdgaa
