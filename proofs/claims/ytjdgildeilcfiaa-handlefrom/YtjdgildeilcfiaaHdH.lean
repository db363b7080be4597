/- What From, New and Live answer. -/
import Derived.Test.YtjdgildeilcfiaaHdG
namespace Go.Proofs.Ytjdgildeilcfiaa
open Go.RowKit
set_option linter.unusedVariables false

theorem from_arg (m : Int) (v : Value) (w : World) (h : m < 1 ∨ 4096 < m) :
    Calls Try.prog 14 #[.int .i64 m, v] w fun e w' => e = .returned (.tuple #[.pointer none, .int .i64 2]) ∧ w = w' := by
  rcases h with h | h
  · go_enter Try.func14, Try.ntmps14
    go_wp2
    go_ret2
    exact ⟨rfl, rfl⟩
  · have h1 : ¬ (m < 1) := by omega
    go_enter Try.func14, Try.ntmps14
    go_wp2
    go_ret2
    exact ⟨rfl, rfl⟩

set_option maxHeartbeats 2000000 in
theorem from_form (n : Nat) (a : Option Addr) (c : Nat) (xs : List Rw) (w : World) (h : IsW w a xs) (h1 : 1 ≤ n) (h2 : n ≤ 4096) (hg : ¬ Gd n xs) (hl : xs.length ≤ 9223372036854775807) :
    Calls Try.prog 14 #[.int .i64 (n : Nat), .slice a xs.length c] w fun e w' => e = .returned (.tuple #[.pointer none, .int .i64 4]) ∧ Below w.heap.size w w' := by
  rw [gd_iff h1 h2] at hg
  have H : Hid (IsW w a xs) := h
  have e1 : ¬ ((n : Int) < 1) := by omega
  have e2 : ¬ ((n : Int) > 4096) := by omega
  clear h
  by_cases q1 : xs.length ≤ n
  · have e3 : ¬ ((xs.length : Int) > (n : Int)) := by omega
    by_cases q2 : wxL xs < xs.length
    · have E : Hid (decide (wxL xs < xs.length) = true) := decide_eq_true q2
      clear hg
      go_enter Try.func14, Try.ntmps14
      go_wp2_with (go_at_call 33; refine (contains_any a c xs _ H.out (by omega)).mono ?_; rw [E.out]; rintro e w1 ⟨rfl, b1⟩; have B1 : Hid (Below w.heap.size w w1) := b1; clear b1)
      go_ret2
      exact ⟨rfl, B1.out⟩
    · have E : Hid (decide (wxL xs < xs.length) = false) := decide_eq_false q2
      have q3 : endB xs = true := by
        cases e : endB xs with
        | true => rfl
        | false => exact absurd ⟨q1, q2, e⟩ hg
      have E3 : Hid (endB xs = true) := q3
      clear hg q3
      go_enter Try.func14, Try.ntmps14
      go_wp2_with (first
        | (go_at_call 33; refine (contains_any a c xs _ H.out (by omega)).mono ?_; rw [E.out]; rintro e w1 ⟨rfl, b1⟩; have B1 : Hid (Below w.heap.size w w1) := b1; clear b1)
        | (go_at_call 35; refine (ends_any a c xs _ (H.out.keep B1.out) (by omega)).mono ?_; rw [E3.out]; rintro e w2 ⟨rfl, rfl⟩))
      go_ret2
      exact ⟨rfl, B1.out⟩
  · have e3 : (xs.length : Int) > (n : Int) := by omega
    clear hg
    go_enter Try.func14, Try.ntmps14
    go_wp2
    go_ret2
    exact ⟨rfl, Below.refl _ _⟩

set_option maxHeartbeats 2000000 in
theorem from_ok (n : Nat) (a : Option Addr) (c : Nat) (xs : List Rw) (w : World) (h : IsW w a xs) (hnil : a = none → xs = [] ∧ c = 0) (hs : ∀ ad, a = some ad → ad.spot = none) (hg : Gd n xs) :
    Calls Try.prog 14 #[.int .i64 (n : Nat), .slice a xs.length c] w fun e w' => ∃ b a' c', e = .returned (.tuple #[.pointer (some ⟨b, 0, none⟩), .int .i64 0]) ∧ Ct w' w.heap.size b a' c' n xs ∧ Below w.heap.size w w' := by
  have HG : Hid (Gd n xs) := hg
  have h1 := hg.n1
  have h2 := hg.n2
  obtain ⟨q1, q2, q3⟩ := (gd_iff h1 h2).1 hg
  have H : Hid (IsW w a xs) := h
  have HN : Hid ((a = none → xs = [] ∧ c = 0) ∧ ∀ ad, a = some ad → ad.spot = none) := ⟨hnil, hs⟩
  have e1 : ¬ ((n : Int) < 1) := by omega
  have e2 : ¬ ((n : Int) > 4096) := by omega
  have e3 : ¬ ((xs.length : Int) > (n : Int)) := by omega
  have E : Hid (decide (wxL xs < xs.length) = false) := decide_eq_false q2
  have E3 : Hid (endB xs = false) := q3
  clear h hg hnil hs q2 q3
  go_enter Try.func14, Try.ntmps14
  go_wp2_with (first
    | (go_at_call 33; refine (contains_any a c xs _ H.out (by omega)).mono ?_; rw [E.out]; rintro e w1 ⟨rfl, b1⟩; have B1 : Hid (Below w.heap.size w w1) := b1; have z1 := b1.size; clear b1)
    | (go_at_call 35; refine (ends_any a c xs _ (H.out.keep B1.out) (by omega)).mono ?_; rw [E3.out]; rintro e w2 ⟨rfl, rfl⟩)
    | (go_at_call 36; refine (clone_any a c xs _ (H.out.keep B1.out) HN.out.1 HN.out.2 (by omega)).mono ?_; rintro e w3 ⟨a', c', rfl, o3, b3⟩; have O3 : Hid (Ow w3 w.heap.size a' xs c') := o3.mono z1; have B3 : Hid (Below w.heap.size w w3) := B1.out.trans (b3.mono z1); have z3 := B3.out.size; clear o3 b3))
  go_ret2
  exact ⟨_, a', c', rfl, ⟨Go.heap_alloc_new w3 _, O3.out.keep ((Below.refl _ w3).alloc (Nat.le_refl _) _), HG.out, z3⟩, B3.out.alloc z3 _⟩

theorem new_ok (n : Nat) (w : World) (h1 : 1 ≤ n) (h2 : n ≤ 4096) :
    Calls Try.prog 10 #[.int .i64 (n : Nat)] w fun e w' => ∃ b a' c', e = .returned (.tuple #[.pointer (some ⟨b, 0, none⟩), .int .i64 0]) ∧ Ct w' w.heap.size b a' c' n [] ∧ Below w.heap.size w w' := by
  go_enter Try.func10, Try.ntmps10
  go_wp2_with (go_at_call 14; refine (from_ok n none 0 [] _ (.inl rfl) (fun _ => ⟨rfl, rfl⟩) (fun _ e => by cases e) (Gd.nil h1 h2)).mono ?_; rintro e w1 ⟨b, a', c', rfl, k1, b1⟩; have K1 : Hid (Ct w1 w.heap.size b a' c' n []) := k1; have B1 : Hid (Below w.heap.size w w1) := b1; clear k1 b1)
  go_ret2
  exact ⟨b, a', c', rfl, K1.out, B1.out⟩

theorem Ow.gcell {w : World} {B : Nat} {a : Option Addr} {L : List Rw} {c : Nat} (h : Ow w B a L c) (i : Nat) (hi : i < L.length) (x : Rw) (hx : L[i] = x) : ∃ g, a = some ⟨g, 0, none⟩ ∧ B ≤ g ∧ g < w.heap.size ∧ w.cell? ⟨g, i * 4, none⟩ = some (.int .i64 x.gen) ∧ w.cell? ⟨g, i * 4 + 1, none⟩ = some (.bool x.live) ∧ w.cell? ⟨g, i * 4 + 2, none⟩ = some (.int .i64 x.kind) ∧ w.cell? ⟨g, i * 4 + 3, none⟩ = some (.int .i64 x.pl) := by
  subst hx; exact h.cells i hi

set_option maxHeartbeats 4000000 in
theorem live_any (B b : Nat) (a : Option Addr) (c n : Nat) (L : List Rw) (w : World) (h : Ct w B b a c n L) :
    Calls Try.prog 21 #[.pointer (some ⟨b, 0, none⟩)] w fun e w' => ∃ a' c', e = .returned (.slice a' (liveF 0 L).length c') ∧ Oh w' w.heap.size a' (liveF 0 L) c' ∧ Below w.heap.size w w' := by
  have H : Hid (Ct w B b a c n L) := h
  have c1 := h.cell1
  have hl := h.len
  clear h
  go_enter Try.func21, Try.ntmps21
  go_wp2
  go_loopw [3, 13] (fun av iv wr => ∃ (i : Nat) (a' : Option Addr) (c' : Nat), i ≤ L.length ∧ av = .slice a' (liveF 0 (L.take i)).length c' ∧ iv = .int .i64 (i : Nat) ∧ Oh wr w.heap.size a' (liveF 0 (L.take i)) c' ∧ Below w.heap.size w wr) (fun _ iv _ => L.length - (intOf iv).toNat)
  case atStart => exact ⟨0, none, 0, Nat.zero_le _, rfl, rfl, Oh.nil _ _, Below.refl _ _⟩
  case round =>
    obtain ⟨i, a', c', hi, rfl, rfl, hO, hB⟩ := hrel
    rename World => wr
    have HO : Hid (Oh wr w.heap.size a' (liveF 0 (L.take i)) c') := hO
    have HB : Hid (Below w.heap.size w wr) := hB
    have z1 := hB.size
    clear hO hB
    by_cases hlt : i < L.length
    · obtain ⟨x, hx⟩ : ∃ x, L[i] = x := ⟨_, rfl⟩
      obtain ⟨g, rfl, hgb, hgs, k0, k1, k2, k3⟩ := (H.out.keep HB.out).row.gcell i hlt x hx
      have TL : Hid (liveF 0 (L.take (i + 1)) = if x.live then liveF 0 (L.take i) ++ [ofN ((i : Int) + 1) x.gen] else liveF 0 (L.take i)) := by
        show _ = _
        rw [← hx]; exact liveF_take hlt
      obtain ⟨M, hM⟩ : ∃ M, liveF 0 (L.take i) = M := ⟨_, rfl⟩
      have hMl : M.length ≤ 4096 := by
        have := liveF_len (L.take i) 0
        rw [hM] at this
        simp at this; omega
      have OX := H.out.gd.at hlt
      rw [hx] at OX
      have o1 := OX.1
      have o2 := OX.2.1
      have hlt' : (i : Int) < (L.length : Int) := by omega
      rw [hM] at HO TL ⊢
      clear hx OX hM
      obtain ⟨xg, xl, xk, xp⟩ := x
      simp only at k0 k1 k2 k3 o1 o2
      cases xl with
      | false =>
        have TF : Hid (liveF 0 (L.take (i + 1)) = M) := TL.out
        go_wp2
        go_roundw
        case rel =>
          refine ⟨i + 1, a', c', by omega, by rw [TF.out], by go_num, ?_, ?_⟩
          · rw [TF.out]; exact HO.out.keep ((Below.refl _ wr).alloc (Nat.le_refl _) _)
          · exact HB.out.alloc z1 _
        case measure => simp [intOf]; omega
      | true =>
        have TT : Hid (liveF 0 (L.take (i + 1)) = M ++ [ofN ((i : Int) + 1) xg]) := TL.out
        obtain ⟨N, hN⟩ : ∃ N, ofN ((i : Int) + 1) xg = N := ⟨_, rfl⟩
        have EN : Hid (ofN ((i : Int) + 1) xg = N) := hN
        rw [hN] at TT
        obtain ⟨wz, hwz⟩ : ∃ wz, (wr.alloc (.cells #[.int .i64 xg, .bool true, .int .i64 xk, .int .i64 xp] 44)).alloc (.cells #[.int .u64 (N : Nat)] 34) = wz := ⟨_, rfl⟩
        have BZ : Below wr.heap.size wr wz := by rw [← hwz]; exact ((Below.refl _ wr).alloc (Nat.le_refl _) _).alloc (by simp) _
        have QZ : wz.heap[wr.heap.size + 1]? = some (.cells #[.int .u64 (N : Nat)] 34 (0, 0)) := by
          rw [← hwz]
          have := Go.heap_alloc_new (wr.alloc (.cells #[.int .i64 xg, .bool true, .int .i64 xk, .int .i64 xp] 44)) (.cells #[.int .u64 (N : Nat)] 34)
          rw [World.size_alloc] at this
          exact this
        obtain ⟨a2, c2, w2, hrun, r2, u2, o2'⟩ := appH_run 31 w.heap.size wz (by have := BZ.size; omega) a' M c' (HO.out.keep BZ) (wr.heap.size + 1) N 1 (cell_of_row wz _ 0 _ _ _ QZ) (by omega)
        have R2 : Hid (Oh w2 w.heap.size a2 (M ++ [N]) c2) := r2
        have B2 : Hid (Below w.heap.size w w2) := HB.out.trans ((BZ.mono z1).trans (u2.below (fun k hk => (HO.out.ge k hk).1) (by have := BZ.size; omega)))
        clear r2 u2 o2' QZ BZ hN TL
        go_wp2_with (first
          | (at_builtin; (try rw [hwz]); refine step_app rfl 31 _ _ rfl (.slice a' M.length c') (.slice (some ⟨wr.heap.size + 1, 0, none⟩) 1 1) (.slice a2 (M.length + 1) c2) w2 rfl rfl hrun ?_)
          | (go_at_call 18; refine (of_any ((i : Int) + 1) xg _ (by omega) (by omega)).mono ?_; rw [EN.out]; rintro e w5 ⟨rfl, rfl⟩))
        go_roundw
        case rel =>
          refine ⟨i + 1, a2, c2, by omega, by rw [TT.out]; simp, by go_num, ?_, B2.out⟩
          rw [TT.out]; exact R2.out
        case measure => simp [intOf]; omega
    · obtain rfl : i = L.length := by omega
      have TE : Hid (liveF 0 (L.take L.length) = liveF 0 L) := by show _ = _; rw [List.take_length]
      rw [TE.out] at HO ⊢
      go_wp2
      go_ret
      exact ⟨a', c', rfl, HO.out, HB.out⟩
end Go.Proofs.Ytjdgildeilcfiaa
