/- What From, New, Rows and Live answer. -/
import Derived.Test.YtjdgildeilcfiaaHdF
namespace Go.Proofs.Ytjdgildeilcfiaa
open Go.RowKit
set_option linter.unusedVariables false

theorem contains_any (a : Option Addr) (c : Nat) (xs : List Rw) (w : World) (h : IsW w a xs) (hx : xs.length ≤ 1000000) :
    Calls Try.prog 33 #[.slice a xs.length c, .func (.func 34) #[] #[]] w fun e w' => e = .returned (.bool (decide (wxL xs < xs.length))) ∧ Below w.heap.size w w' := by
  have H : Hid (IsW w a xs) := h
  clear h
  by_cases hlt : wxL xs < xs.length
  · have E : Hid ((if wxL xs < xs.length then ((wxL xs : Nat) : Int) else -1) = (wxL xs : Nat)) := if_pos hlt
    rw [decide_eq_true hlt]
    have h0 : ((wxL xs : Nat) : Int) ≥ 0 := by omega
    go_enter Try.func33, Try.ntmps33
    go_wp2_with (go_at_call 42; refine (iw_any a c xs _ H.out hx _ E.out).mono ?_; rintro e w1 ⟨b1, rfl⟩; have B1 : Hid (Below w.heap.size w w1) := b1; clear b1)
    go_ret
    exact ⟨rfl, B1.out⟩
  · have E : Hid ((if wxL xs < xs.length then ((wxL xs : Nat) : Int) else -1) = -1) := if_neg hlt
    rw [decide_eq_false hlt]
    go_enter Try.func33, Try.ntmps33
    go_wp2_with (go_at_call 42; refine (iw_any a c xs _ H.out hx _ E.out).mono ?_; rintro e w1 ⟨b1, rfl⟩; have B1 : Hid (Below w.heap.size w w1) := b1; clear b1)
    go_ret
    exact ⟨rfl, B1.out⟩
/-- Is the last row that of an index that was never given out? -/
def endB (xs : List Rw) : Bool := match xs.getLast? with
  | some r => decide (r.gen = 0 ∧ r.live = false ∧ r.kind = 0 ∧ r.pl = 0)
  | none => false
theorem endB_at {xs : List Rw} (h : 0 < xs.length) : endB xs = decide ((xs[xs.length - 1]'(by omega)).gen = 0 ∧ (xs[xs.length - 1]'(by omega)).live = false ∧ (xs[xs.length - 1]'(by omega)).kind = 0 ∧ (xs[xs.length - 1]'(by omega)).pl = 0) := by
  unfold endB
  rw [List.getLast?_eq_getElem?, List.getElem?_eq_getElem (by omega)]

set_option maxHeartbeats 2000000 in
theorem ends_any (a : Option Addr) (c : Nat) (xs : List Rw) (w : World) (h : IsW w a xs) (hx : xs.length ≤ 1000000) :
    Calls Try.prog 35 #[.slice a xs.length c] w fun e w' => e = .returned (.bool (endB xs)) ∧ w = w' := by
  rcases Nat.eq_zero_or_pos xs.length with h0 | h0
  · obtain rfl := List.eq_nil_of_length_eq_zero h0
    rw [show endB [] = false from rfl]
    clear h h0 hx
    simp only [List.length_nil]
    go_enter Try.func35, Try.ntmps35
    go_wp2
    go_ret
    exact ⟨rfl, rfl⟩
  · rw [endB_at h0]
    rcases h with e | ⟨b, off, rfl, hb, hc⟩
    · rw [e] at h0; simp at h0
    · obtain ⟨c0, c1, c2, c3⟩ := hc (xs.length - 1) (by omega)
      obtain ⟨⟨g, lv, k, p⟩, hx'⟩ : ∃ x, xs[xs.length - 1]'(by omega) = x := ⟨_, rfl⟩
      rw [hx'] at c0 c1 c2 c3 ⊢
      clear hc hx'
      obtain ⟨l, hl⟩ : ∃ l, xs.length = l := ⟨_, rfl⟩
      rw [hl] at c0 c1 c2 c3 hx h0 ⊢
      clear hl
      simp only at c0 c1 c2 c3 ⊢
      obtain ⟨m, rfl⟩ : ∃ m, l = m + 1 := ⟨l - 1, by omega⟩
      simp only [Nat.add_sub_cancel] at c0 c1 c2 c3
      have e1 : (((m + 1 : Nat) : Int) - 1) = (m : Int) := by omega
      have e2 : ((m + 1 : Nat) : Int) > 0 := by omega
      have e3 : (m : Int) < ((m + 1 : Nat) : Int) := by omega
      by_cases h1 : g = 0
      · cases lv with
        | true =>
          rw [decide_eq_false (by simp)]
          go_enter Try.func35, Try.ntmps35
          go_wp2
          go_ret
          exact ⟨ret_bool (by simp), rfl⟩
        | false =>
          by_cases h2 : k = 0
          · by_cases h3 : p = 0
            · rw [decide_eq_true (by simp [h1, h2, h3])]
              subst h1 h2 h3
              go_enter Try.func35, Try.ntmps35
              go_wp2
              go_ret
              exact ⟨ret_bool (by simp), rfl⟩
            · rw [decide_eq_false (by simp [h3])]
              go_enter Try.func35, Try.ntmps35
              go_wp2
              go_ret
              exact ⟨ret_bool (by simp), rfl⟩
          · rw [decide_eq_false (by simp [h2])]
            go_enter Try.func35, Try.ntmps35
            go_wp2
            go_ret
            exact ⟨ret_bool (by simp), rfl⟩
      · rw [decide_eq_false (by simp [h1])]
        go_enter Try.func35, Try.ntmps35
        go_wp2
        go_ret
        exact ⟨ret_bool (by simp), rfl⟩

/-- Which rows may be a table's. -/
theorem gd_iff {n : Nat} {xs : List Rw} (h1 : 1 ≤ n) (h2 : n ≤ 4096) : Gd n xs ↔ xs.length ≤ n ∧ ¬ wxL xs < xs.length ∧ endB xs = false := by
  constructor
  · intro h
    refine ⟨h.len, fun hlt => ?_, ?_⟩
    · have := wx_at hlt
      simp [wrB] at this
      exact this (h.at hlt)
    · unfold endB
      cases e : xs.getLast? with
      | none => rfl
      | some r => exact decide_eq_false (fun q => h.last r e q.1)
  · rintro ⟨q1, q2, q3⟩
    have ok : ∀ r ∈ xs, okR r := fun r hr => by
      obtain ⟨j, hj, rfl⟩ := List.mem_iff_getElem.1 hr
      have e := wx_le xs
      have := wx_no (l := xs) (i := j) (by omega)
      simpa [wrB] using this
    refine ⟨h1, h2, q1, ok, fun r hr hz => ?_⟩
    unfold endB at q3
    rw [hr] at q3
    have o := ok r (List.mem_of_getLast? hr)
    have hl : r.live = false := by
      cases e : r.live with
      | false => rfl
      | true => have := o.2.2.1 e; omega
    have := of_decide_eq_false q3
    exact this ⟨hz, hl, (o.2.2.2 hl).1, (o.2.2.2 hl).2⟩

theorem clone_nil (n c : Nat) (w : World) :
    Calls Try.prog 36 #[.slice none n c] w fun e w' => e = .returned (.slice none 0 0) ∧ w = w' := by
  have q : ∀ (w : World) (a : Option Addr) (n c n' c' : Nat), (binOp .eql 40 (.slice a n c) (.slice none n' c')).run Try.prog w = .ok (.bool a.isNone) w := fun w a n c n' c' => Lib.run_eql_slice_nil w _ _ a n c n' c' Try.undRows
  go_enter Try.func36, Try.ntmps36
  go_wp2
  go_ret
  exact ⟨rfl, rfl⟩
theorem Ow.made (w : World) (B : Nat) (hB : B ≤ w.heap.size) : Ow (w.alloc (.cells #[] 44)) B (some ⟨w.heap.size, 0, none⟩) [] 0 := World.ownsRow_made w #[] 0 hB (Nat.zero_le _) rfl
theorem addr_spot {a : Addr} (h : a.spot = none) : a = ⟨a.block, a.off, none⟩ := by cases a; cases h; rfl
/-- The rows are cloned into a row of one's own. -/
theorem clone_at (b off c : Nat) (l : List Rw) (w : World)
    (hq : ∀ i (hi : i < l.length), w.cell? ⟨b, off + i * 4, none⟩ = some (.int .i64 l[i].gen) ∧ w.cell? ⟨b, off + i * 4 + 1, none⟩ = some (.bool l[i].live) ∧ w.cell? ⟨b, off + i * 4 + 2, none⟩ = some (.int .i64 l[i].kind) ∧ w.cell? ⟨b, off + i * 4 + 3, none⟩ = some (.int .i64 l[i].pl)) (hl : l.length ≤ 4398046511104) :
    Calls Try.prog 36 #[.slice (some ⟨b, off, none⟩) l.length c] w fun e w' => ∃ a' c', e = .returned (.slice a' l.length c') ∧ Ow w' w.heap.size a' l c' ∧ Below w.heap.size w w' := by
  have q : ∀ (w : World) (a : Option Addr) (n c n' c' : Nat), (binOp .eql 40 (.slice a n c) (.slice none n' c')).run Try.prog w = .ok (.bool a.isNone) w := fun w a n c n' c' => Lib.run_eql_slice_nil w _ _ a n c n' c' Try.undRows
  obtain ⟨a', c', w', hrun, o, u, _⟩ := appW_run 40 w.heap.size (w.alloc (.cells #[] 44)) (by simp) (some ⟨w.heap.size, 0, none⟩) [] 0 (Ow.made w _ (Nat.le_refl _)) b off l c (fun i hi => by
    obtain ⟨k0, k1, k2, k3⟩ := hq i hi
    exact ⟨Lib.cell?_alloc_some _ k0, Lib.cell?_alloc_some _ k1, Lib.cell?_alloc_some _ k2, Lib.cell?_alloc_some _ k3⟩) (by simpa using hl)
  simp only [List.length_nil, Nat.zero_add, List.nil_append] at hrun o
  have O : Hid (Ow w' w.heap.size a' l c') := o
  have B : Hid (Below w.heap.size w w') := ((Below.refl _ w).alloc (Nat.le_refl _) _).trans (u.below (fun i hi => by have := Option.some.inj hi; have : w.heap.size = i := this; omega) (by simp))
  clear hq o u
  go_enter Try.func36, Try.ntmps36
  go_wp2_with (at_builtin; refine step_app rfl 40 _ _ rfl (.slice (some ⟨w.heap.size, 0, none⟩) 0 0) (.slice (some ⟨b, off, none⟩) l.length c) (.slice a' l.length c') w' rfl rfl hrun ?_)
  go_ret
  exact ⟨a', c', rfl, O.out, B.out⟩
theorem clone_any (a : Option Addr) (c : Nat) (l : List Rw) (w : World) (h : IsW w a l) (hnil : a = none → l = [] ∧ c = 0) (hs : ∀ ad, a = some ad → ad.spot = none) (hl : l.length ≤ 4398046511104) :
    Calls Try.prog 36 #[.slice a l.length c] w fun e w' => ∃ a' c', e = .returned (.slice a' l.length c') ∧ Ow w' w.heap.size a' l c' ∧ Below w.heap.size w w' := by
  rcases a with _ | ad
  · obtain ⟨rfl, rfl⟩ := hnil rfl
    refine (clone_nil _ _ w).mono ?_
    rintro e w' ⟨rfl, rfl⟩
    exact ⟨none, 0, rfl, Ow.nil _ _, Below.refl _ _⟩
  · have e := addr_spot (hs ad rfl)
    rw [e] at h ⊢
    refine clone_at ad.block ad.off c l w ?_ hl
    rcases h with rfl | ⟨b, off, e, _, hc⟩
    · intro i hi; simp at hi
    · cases e; exact hc
theorem Ow.spot {w : World} {B : Nat} {a : Option Addr} {L : List Rw} {c : Nat} (h : Ow w B a L c) : ∀ ad, a = some ad → ad.spot = none := by
  intro ad e
  obtain ⟨_, ⟨h1, _⟩ | ⟨g', c', cur, h1, _, h2, _⟩⟩ := h
  · subst e; cases h1
  · subst e; cases h1; rfl
theorem rows_any (B b : Nat) (a : Option Addr) (c n : Nat) (L : List Rw) (w : World) (h : Ct w B b a c n L) :
    Calls Try.prog 16 #[.pointer (some ⟨b, 0, none⟩)] w fun e w' => ∃ a' c', e = .returned (.slice a' L.length c') ∧ Ow w' w.heap.size a' L c' ∧ Below w.heap.size w w' := by
  have H : Hid (Ct w B b a c n L) := h
  have c1 := h.cell1
  have hl := h.len
  clear h
  go_enter Try.func16, Try.ntmps16
  go_wp2_with (go_at_call 36; refine (clone_any a c L _ H.out.row.isW (fun e => by have q := H.out.row; subst e; exact q.no) H.out.row.spot (by omega)).mono ?_; rintro e w1 ⟨a', c', rfl, o1, b1⟩; have O1 : Hid (Ow w1 w.heap.size a' L c') := o1; have B1 : Hid (Below w.heap.size w w1) := b1; clear o1 b1)
  go_ret
  exact ⟨_, _, rfl, O1.out, B1.out⟩
end Go.Proofs.Ytjdgildeilcfiaa
