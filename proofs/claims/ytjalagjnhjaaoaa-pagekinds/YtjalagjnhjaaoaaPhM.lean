/- Layer 18: the walks of PageRows and PageKinds. -/
import Derived.Test.YtjalagjnhjaaoaaPhL
import Derived.Laws.OwnMore
namespace Go.Proofs.Ytjalagjnhjaaoaa
open Go.RowKit
set_option linter.unusedVariables false
set_option maxRecDepth 4000

/-- Rows appended to rows of one's own, whatever the rows. -/
theorem appW_any (B : Nat) (w : World) (hB : B ≤ w.heap.size) (a : Option Addr) (L : List HRw) (cap : Nat) (h : Ow w B a L cap) (la : Option Addr) (l : List HRw) (lk : Nat) (hI : IsW w la l) (hn : la = none → l = [] ∧ lk = 0) (hL : L.length + l.length ≤ 4398046511104) :
    ∃ a' cap' w', (Builtin.append_ #[22, 22] 22 #[.slice a L.length cap, .slice la l.length lk]).run Try.prog w = .ok (.slice a' (L ++ l).length cap') w' ∧ Ow w' B a' (L ++ l) cap' ∧ Tu (fun k => ob a = some k) w w' ∧ (ob a' = ob a ∨ ob a' = some w.heap.size) := by
  obtain ⟨i0, hi, hz0, hz2, hz3⟩ := info_parts Try.infoW
  cases la with
  | none =>
    obtain ⟨rfl, rfl⟩ := hn rfl
    refine ⟨a, cap, w, ?_, by rw [List.append_nil]; exact h, Tu.refl _ _, .inl rfl⟩
    rw [List.append_nil]
    exact run_append_owned_none (P := Try.prog) (w := w) B 22 22 51 i0 4 Try.undRows hi _ _ _ h
  | some x =>
    have hc : ∀ j u, (cellsW l)[j]? = some u → w.cell? (x.add j) = some u := fun j u hj => by
      rcases hI with e | ⟨b, off, e, _, hc⟩
      · subst e; simp [cellsW] at hj
      · cases e
        have hlt : j < l.length * 4 := by have := (List.getElem?_eq_some_iff.1 hj).1; rw [cellsW_len] at this; exact this
        have hi2 : j / 4 < l.length := by omega
        rw [addr_add]
        obtain ⟨k0, k1, k2, k3⟩ := cellsW_at l (j / 4) hi2
        obtain ⟨q0, q1, q2, q3⟩ := hc (j / 4) hi2
        rcases (by omega : j % 4 = 0 ∨ j % 4 = 1 ∨ j % 4 = 2 ∨ j % 4 = 3) with e | e | e | e
        · have e' : j / 4 * 4 = j := by omega
          rw [e'] at k0 q0
          rw [q0, ← k0]; exact hj
        · have e' : j / 4 * 4 + 1 = j := by omega
          rw [Nat.add_assoc, e'] at q1
          rw [e'] at k1
          rw [q1, ← k1]; exact hj
        · have e' : j / 4 * 4 + 2 = j := by omega
          rw [Nat.add_assoc, e'] at q2
          rw [e'] at k2
          rw [q2, ← k2]; exact hj
        · have e' : j / 4 * 4 + 3 = j := by omega
          rw [Nat.add_assoc, e'] at q3
          rw [e'] at k3
          rw [q3, ← k3]; exact hj
    obtain ⟨v', w', hr, h2, h3, _, h4⟩ := run_append_own_at (P := Try.prog) w B 22 22 51 i0 _ 4 32 Try.undRows hi hz0 hz2 hz3 rfl (by decide) (.slice a L.length cap) L.length (cellsW L) h x l.length lk (cellsW l) (cellsW_len l) hc (cellsW_one l) (by unfold maxLen; omega) (by omega) hB
    obtain ⟨a', cap', rfl⟩ := howns_form h2
    rw [ob_own] at h3 h4
    rw [ob_own] at h4
    refine ⟨a', cap', w', by rw [List.length_append]; exact hr, ?_, Tu.grown h3 (fun g hg => hg), h4⟩
    unfold Ow
    rw [List.length_append, cellsW_append]
    exact h2

theorem out_ok {l : List HRw} {i : Int} {O : List Int} (h : pgOut l i = (O, 0)) : ∃ j : Nat, i = (j : Int) ∧ 32 * j < l.length ∧ O = pgB rowB (pgAt 32 l j) ∧ ∀ x ∈ pgAt 32 l j, mayR x = true := by
  unfold pgOut at h
  by_cases h1 : 0 ≤ i ∧ i < cntP l.length 32
  · rw [if_pos h1] at h
    by_cases h2 : (pgAt 32 l i.toNat).all mayR = true
    · rw [if_pos h2] at h
      simp only [Prod.mk.injEq, and_true] at h
      refine ⟨i.toNat, by omega, ?_, h.symm, List.all_eq_true.1 h2⟩
      exact (cnt_in (n := l.length) (per := 32) (i := i.toNat) (by decide)).1 (by simp only [Int.cast_ofNat_Int] at *; omega)
    · rw [if_neg h2] at h
      simp at h
  · rw [if_neg h1] at h
    simp at h
theorem outK_ok {l : List (Int × List Int)} {i : Int} {O : List Int} (h : pgOutK l i = (O, 0)) : ∃ j : Nat, i = (j : Int) ∧ 16 * j < l.length ∧ O = pgB kdB (pgAt 16 l j) ∧ ∀ x ∈ pgAt 16 l j, kdOk x = true := by
  unfold pgOutK at h
  by_cases h1 : 0 ≤ i ∧ i < cntP l.length 16
  · rw [if_pos h1] at h
    by_cases h2 : (pgAt 16 l i.toNat).all kdOk = true
    · rw [if_pos h2] at h
      simp only [Prod.mk.injEq, and_true] at h
      refine ⟨i.toNat, by omega, ?_, h.symm, List.all_eq_true.1 h2⟩
      exact (cnt_in (n := l.length) (per := 16) (i := i.toNat) (by decide)).1 (by simp only [Int.cast_ofNat_Int] at *; omega)
    · rw [if_neg h2] at h
      simp at h
  · rw [if_neg h1] at h
    simp at h
theorem pgB_byte {p : List HRw} (hp : p.length ≤ 32) (h : ∀ x ∈ p, mayR x = true) : AllB (pgB rowB p) := AllB.append (varL_byte _ (by omega) (by omega)) (pg_byte rowT h)
theorem pgK_byte {p : List (Int × List Int)} (hp : p.length ≤ 16) (h : ∀ x ∈ p, kdOk x = true) : AllB (pgB kdB p) := AllB.append (varL_byte _ (by omega) (by omega)) (pg_byte kindT h)
theorem pgB_len {p : List HRw} (hp : p.length ≤ 32) (h : ∀ x ∈ p, mayR x = true) : (pgB rowB p).length ≤ 100000 := by
  have q : ∀ p : List HRw, (∀ x ∈ p, mayR x = true) → (manyB rowB p).length ≤ 40 * p.length := fun p => by
    induction p with
    | nil => intro _; simp [manyB]
    | cons x p ih =>
      intro h
      have e : manyB rowB (x :: p) = rowB x ++ manyB rowB p := by simp [manyB]
      rw [e, List.length_append, List.length_cons]
      have := ih (fun y hy => h y (List.mem_cons_of_mem _ hy))
      have := (row_len (h x (List.mem_cons_self ..))).1
      omega
  unfold pgB
  rw [List.length_append]
  have := q p h
  have := varL_le (p.length : Nat)
  omega
theorem pgK_len {p : List (Int × List Int)} (hp : p.length ≤ 16) (h : ∀ x ∈ p, kdOk x = true) : (pgB kdB p).length ≤ 100000 := by
  have q : ∀ p : List (Int × List Int), (∀ x ∈ p, kdOk x = true) → (manyB kdB p).length ≤ 180 * p.length := fun p => by
    induction p with
    | nil => intro _; simp [manyB]
    | cons x p ih =>
      intro h
      have e : manyB kdB (x :: p) = kdB x ++ manyB kdB p := by simp [manyB]
      rw [e, List.length_append, List.length_cons]
      have := ih (fun y hy => h y (List.mem_cons_of_mem _ hy))
      have q2 : (kdB x).length ≤ 180 := kdB_len (of_decide_eq_true (h x (List.mem_cons_self ..)))
      omega
  unfold pgB
  rw [List.length_append]
  have := q p h
  have := varL_le (p.length : Nat)
  omega
/-- What Rows answers, as bytes. -/
theorem out_byte (l : List HRw) (i : Int) : AllB (pgOut l i).1 ∧ (pgOut l i).1.length ≤ 100000 := by
  rcases h : pgOut l i with ⟨O, E⟩
  by_cases hE : E = 0
  · subst hE
    obtain ⟨j, _, hj, rfl, ho⟩ := out_ok h
    have hl := (pg_len hj).2.2
    exact ⟨pgB_byte hl ho, pgB_len hl ho⟩
  · have e : O = [] := by
      unfold pgOut at h
      split at h
      · split at h
        · simp only [Prod.mk.injEq] at h; exact absurd h.2.symm hE
        · simp only [Prod.mk.injEq] at h; exact h.1.symm
      · simp only [Prod.mk.injEq] at h; exact h.1.symm
    subst e
    exact ⟨(fun x hx => by cases hx), Nat.zero_le _⟩
theorem outK_byte (l : List (Int × List Int)) (i : Int) : AllB (pgOutK l i).1 ∧ (pgOutK l i).1.length ≤ 100000 := by
  rcases h : pgOutK l i with ⟨O, E⟩
  by_cases hE : E = 0
  · subst hE
    obtain ⟨j, _, hj, rfl, ho⟩ := outK_ok h
    have hl := (pgk_len hj).2.2
    exact ⟨pgK_byte hl ho, pgK_len hl ho⟩
  · have e : O = [] := by
      unfold pgOutK at h
      split at h
      · split at h
        · simp only [Prod.mk.injEq] at h; exact absurd h.2.symm hE
        · simp only [Prod.mk.injEq] at h; exact h.1.symm
      · simp only [Prod.mk.injEq] at h; exact h.1.symm
    subst e
    exact ⟨(fun x hx => by cases hx), Nat.zero_le _⟩

theorem owns_none {w : World} {B : Nat} {l : List Int} {c : Nat} (o : OwnsB w B none l c) : l = [] := by
  obtain ⟨_, ⟨q, q2⟩ | ⟨g, c', cur, q, _⟩⟩ := o
  · exact List.eq_nil_of_length_eq_zero q2
  · cases q
set_option maxRecDepth 20000 in
set_option maxHeartbeats 8000000 in
/-- PageRows. -/
theorem pageRows_any (a : Option Addr) (cap : Nat) (l : List HRw) (i : Int) (w : World) (hW : IsW w a l) (hlen : l.length ≤ 4398046511104) (hn : a = none → l = [] ∧ cap = 0) (hc : l.length ≤ cap) (hi : -9223372036854775808 ≤ i ∧ i ≤ 9223372036854775807) :
    Calls Try.prog 3 #[.slice a l.length cap, .int .i64 i] w fun e w' => e = .returned (.bool true) ∧ Below w.heap.size w w' := by
  have HW : Hid (IsW w a l) := hW
  have HN : Hid (a = none → l = [] ∧ cap = 0) := hn
  obtain ⟨O, E, hO⟩ : ∃ O E, pgOut l i = (O, E) := ⟨_, _, rfl⟩
  have HO : Hid (pgOut l i = (O, E)) := hO
  obtain ⟨ob1, ob2⟩ := out_byte l i
  rw [hO] at ob1 ob2
  simp only at ob1 ob2
  have OB : Hid (AllB O) := ob1
  clear hW hn hO ob1
  go_enter Try.func3, Try.ntmps3
  go_wp2_with fail
  refine (alive18 _).mono ?_
  rintro e w1 ⟨rfl, b1⟩
  have B1 : Hid (Below w.heap.size w w1) := b1
  clear b1
  obtain ⟨D, hD⟩ : ∃ D, w1.alloc (.cells #[] 51) = D := ⟨_, rfl⟩
  have rD : D.heap[w1.heap.size]? = some (.cells #[] 51 (0, 0)) := by rw [← hD]; exact Go.heap_alloc_new w1 _
  have bD : Below w1.heap.size w1 D := by rw [← hD]; exact (Below.refl _ w1).alloc (Nat.le_refl _) _
  have o0 : Ow D w1.heap.size (some ⟨w1.heap.size, 0, none⟩) [] 0 := ⟨rfl, .inr ⟨w1.heap.size, 0, #[], rfl, Nat.le_refl _, rD, Nat.le_refl _, Nat.zero_le _, rfl, rfl⟩⟩
  obtain ⟨a2, c2, w2, run2, o2, t2, _⟩ := appW_any w1.heap.size D bD.size _ [] 0 o0 a l cap ((HW.out.keep B1.out).keep bD) HN.out (by simp; omega)
  rw [List.nil_append] at run2 o2
  have RUN2 : Hid ((Builtin.append_ #[22, 22] 22 #[.slice (some ⟨w1.heap.size, 0, none⟩) 0 0, .slice a l.length cap]).run Try.prog D = .ok (.slice a2 l.length c2) w2) := run2
  have O2 : Hid (Ow w2 w1.heap.size a2 l c2) := o2
  have B2 : Hid (Below w.heap.size w w2) := B1.out.trans ((bD.trans (t2.below (fun k e => by have e := Option.some.inj e; have e : w1.heap.size = k := e; omega) bD.size)).mono B1.out.size)
  have HD : Hid (w1.alloc (.cells #[] 51) = D) := hD
  have LC : Hid (l.length ≤ c2) := o2.len.1
  clear rD bD o0 run2 o2 t2
  go_wp2_with (at_builtin; refine wpList_runw rfl rfl _ _ rfl (.slice (some ⟨w1.heap.size, 0, none⟩) 0 0) (.slice a l.length cap) _ _ rfl rfl RUN2.out ?_)
  have W2 : Hid (IsW w2 a2 l) := O2.out.isW
  have RC : Hid (Calls Try.prog 10 #[.slice a2 l.length c2, .int .i64 i] w2 fun e w' => ∃ a' c', e = .returned (.tuple #[.slice a' O.length c', .int .i64 E]) ∧ OwnsB w' w2.heap.size a' O c' ∧ Below w2.heap.size w2 w') := by
    have q := prows_any a2 c2 l i w2 W2.out (by omega) LC.out hi
    rw [HO.out] at q
    exact q
  clear hD
  go_wp2_with fail
  refine Calls.mono RC.out ?_
  rintro e w3 ⟨a3, c3, rfl, o3, b3⟩
  have B3 : Hid (Below w.heap.size w w3) := B2.out.trans (b3.mono B2.out.size)
  have I3 : Hid (IsB w3 a3 O) := ownsB_isB OB.out o3
  have N3 : Hid (a3 = none → O = []) := fun e => by subst e; exact owns_none o3
  have W3 : Hid (IsW w3 a2 l) := W2.out.keep b3
  have RD : Hid (Calls Try.prog 11 #[.slice a l.length cap, .int .i64 i] w3 fun e w' => ∃ a' c', e = .returned (.tuple #[.slice a' O.length c', .int .i64 E]) ∧ OwnsB w' w3.heap.size a' O c' ∧ Below w3.heap.size w3 w') := by
    have q := drows_any a cap l i w3 (HW.out.keep B3.out) (by omega) hc hi
    rw [HO.out] at q
    exact q
  clear o3 b3 RC
  go_wp2_with fail
  refine Calls.mono RD.out ?_
  rintro e w4 ⟨a4, c4, rfl, o4, b4⟩
  have B4 : Hid (Below w.heap.size w w4) := B3.out.trans (b4.mono B3.out.size)
  have I4 : Hid (IsB w4 a4 O) := ownsB_isB OB.out o4
  have J4 : Hid (IsB w4 a3 O) := I3.out.keep b4
  have W4 : Hid (IsW w4 a2 l) := W3.out.keep b4
  clear o4 b4 RD
  go_wp2_with fail
  refine (same_true a3 a4 _ _ c3 c4 O _ J4.out I4.out rfl rfl).mono ?_
  rintro e w5 ⟨rfl, rfl⟩
  go_wp2_with fail
  refine (hsame18 a2 a _ _ c2 cap l _ W4.out (HW.out.keep B4.out) rfl rfl (by omega)).mono ?_
  rintro e w6 ⟨rfl, b6⟩
  have B6 : Hid (Below w.heap.size w w6) := B4.out.trans (b6.mono B4.out.size)
  have J6 : Hid (IsB w6 a3 O) := J4.out.keep b6
  clear b6
  obtain ⟨C, hC⟩ : ∃ C, cntP i l.length = C := ⟨_, rfl⟩
  have HC : Hid (cntP i l.length = C) := hC
  clear hC
  go_wp2_with fail
  refine (pcount_any i (l.length : Nat) _ hi (by omega)).mono ?_
  rw [HC.out]
  rintro e w7 ⟨rfl, rfl⟩
  go_wp2_with fail
  refine (dcount_any i (l.length : Nat) _ hi (by omega)).mono ?_
  rw [HC.out]
  rintro e w8 ⟨rfl, rfl⟩
  by_cases hE : E = 0
  · have HO2 := HO.out
    subst hE
    obtain ⟨j, rfl, jl, hP, hok⟩ := out_ok HO2
    obtain ⟨pl1, pl2, pl3⟩ := pg_len jl
    have BK : pgRd rowRd 32 O = (pgAt 32 l j, 0) := by
      rw [hP]
      exact pg_back rowT (fun e => by rw [e] at pl2; simp at pl2) (by omega) (by omega) hok
    have HBK : Hid (pgRd rowRd 32 O = (pgAt 32 l j, 0)) := BK
    obtain ⟨gr, off, rfl⟩ : ∃ gr off, a = some ⟨gr, off, none⟩ := by
      rcases HW.out with q | ⟨b, o, e, _⟩
      · rw [q] at jl; simp at jl
      · exact ⟨b, o, e⟩
    have HP : Hid (IsW w (some ⟨gr, off + 32 * j * 4, none⟩) (pgAt 32 l j)) := by
      have q := HW.out.part (32 * j) (pgAt 32 l j).length (by rw [pl1]; omega)
      have e : (l.drop (32 * j)).take (pgAt 32 l j).length = pgAt 32 l j := by
        unfold pgAt
        rw [List.length_take, List.take_eq_take_iff]
        simp
      rw [e] at q
      exact q
    obtain ⟨p, hp⟩ : ∃ p, pgAt 32 l j = p := ⟨_, rfl⟩
    rw [hp] at HP HBK pl1 pl2 pl3
    obtain ⟨P, hPl⟩ : ∃ P, p.length = P := ⟨_, rfl⟩
    have HPL : Hid (p.length = P) := hPl
    rw [hPl] at pl1 pl2 pl3
    obtain ⟨lo, hlo⟩ : ∃ lo : Nat, 32 * j = lo := ⟨_, rfl⟩
    rw [hlo] at HP jl pl1
    have w1' : IntKind.i64.wrap (32 * (j : Int)) = (lo : Int) := by rw [IntKind.wrap_i64]; omega
    obtain ⟨l32, hl32⟩ : ∃ x : Nat, lo + 32 = x := ⟨_, rfl⟩
    have w2' : IntKind.i64.wrap ((lo : Int) + 32) = (l32 : Int) := by rw [IntKind.wrap_i64]; omega
    obtain ⟨hi2, hhi, hcase⟩ : ∃ x : Nat, x = min l32 l.length ∧ ((x = l32 ∧ l32 ≤ l.length) ∨ (x = l.length ∧ ¬ l32 ≤ l.length)) := ⟨_, rfl, by omega⟩
    have ePP : P = hi2 - lo := by omega
    have SLR : ∀ w : World, (Instr.slice 22 (.slice (some ⟨gr, off, none⟩) l.length cap) (some (.int .i64 (lo : Int))) (some (.int .i64 (hi2 : Int))) none).run Try.prog w = .ok (.slice (some ⟨gr, off + lo * 4, none⟩) P (cap - lo)) w := fun w => by
      rw [sliceW_run w gr off l.length cap lo hi2 (by omega) (by omega) (by omega), ← ePP]
    clear hok BK hP hp hPl hlo pl1 ePP hhi hl32 HO2 jl
    go_wp2_with fail
    refine (preadrows_any a3 c3 O _ J6.out (by omega) N3.out).mono ?_
    unfold RrPost
    rw [HBK.out]
    rintro e w9 ⟨a9, c9, rfl, o9, b9⟩
    have B9 : Hid (Below w.heap.size w w9) := B6.out.trans (b9.mono B6.out.size)
    have W9 : Hid (IsW w9 a9 p) := o9.isW
    clear o9 b9
    simp only
    rw [HPL.out]
    have HS : Hid (Calls Try.prog 13 #[.slice a9 P c9, .slice (some ⟨gr, off + lo * 4, none⟩) P (cap - lo)] w9 fun e w' => e = .returned (.bool true) ∧ Below w9.heap.size w9 w') := hsame18 a9 (some ⟨gr, off + lo * 4, none⟩) P P c9 (cap - lo) p w9 W9.out (HP.out.keep B9.out) HPL.out.symm HPL.out.symm (by rw [HPL.out]; omega)
    rcases hcase with ⟨rfl, hle⟩ | ⟨rfl, hle⟩
    · have m1 : (hi2 : Int) ≤ (l.length : Int) := by omega
      have m2 : ¬ (l.length : Int) < (hi2 : Int) := by omega
      go_wp2_with fail
      refine Calls.mono HS.out ?_
      rintro e wx ⟨rfl, bx⟩
      go_wp2
      go_ret
      exact ⟨rfl, B9.out.trans (bx.mono B9.out.size)⟩
    · have m1 : ¬ (l32 : Int) ≤ (l.length : Int) := by omega
      have m2 : (l.length : Int) < (l32 : Int) := by omega
      go_wp2_with fail
      refine Calls.mono HS.out ?_
      rintro e wx ⟨rfl, bx⟩
      go_wp2
      go_ret
      exact ⟨rfl, B9.out.trans (bx.mono B9.out.size)⟩
  · have e1 : (E != 0) = true := by rw [bne_iff_ne]; exact hE
    go_wp2
    go_ret
    exact ⟨rfl, B6.out⟩
end Go.Proofs.Ytjalagjnhjaaoaa
