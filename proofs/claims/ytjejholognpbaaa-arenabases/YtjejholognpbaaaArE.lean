/- What Read, Write, Zero and Move answer. -/
import Derived.Test.YtjejholognpbaaaArD
namespace Go.Proofs.Ytjejholognpbaaa
open Go.RowKit
set_option linter.unusedVariables false

/-- Bytes that were handed out: none, or a new block that they fill. -/
def Got (B : Nat) (w : World) (a : Option Addr) (l : List Int) : Prop := l = [] ∨ ∃ g, a = some ⟨g, 0, none⟩ ∧ B ≤ g ∧ RowB w g l
theorem Got.isB {B : Nat} {w : World} {a : Option Addr} {l : List Int} (h : Got B w a l) (hb : AllB l) : IsB w a l := by
  rcases h with rfl | ⟨g, rfl, _, hr⟩
  · exact IsB.nil _ _
  · exact hr.isB hb
theorem Got.tg {B g' : Nat} {w w' : World} {a : Option Addr} {l : List Int} (h : Got B w a l) (ht : Tg g' w w') (hg : g' < B) : Got B w' a l := by
  rcases h with rfl | ⟨g, rfl, hB, hr⟩
  · exact .inl rfl
  · exact .inr ⟨g, rfl, hB, ht.row hr (by omega)⟩
theorem Got.keep {B : Nat} {w w' : World} {a : Option Addr} {l : List Int} (h : Got B w a l) (hb : Below w.heap.size w w') : Got B w' a l := by
  rcases h with rfl | ⟨g, rfl, hB, hr⟩
  · exact .inl rfl
  · exact .inr ⟨g, rfl, hB, hr.keep hb⟩
theorem Got.mono {B B' : Nat} {w : World} {a : Option Addr} {l : List Int} (h : Got B w a l) (hb : B' ≤ B) : Got B' w a l := by
  rcases h with rfl | ⟨g, rfl, hB, hr⟩
  · exact .inl rfl
  · exact .inr ⟨g, rfl, by omega, hr⟩
theorem Got.drewN {B : Nat} {w : World} {a : Option Addr} {l : List Int} (h : Got B w a l) (m : Nat) : Got B (w.drewN m) a l := h

theorem inR_nat {n : Nat} {o k : Int} (h : inR n o k) : ∃ p m : Nat, o = p ∧ k = m ∧ p + m ≤ n := by
  unfold inR at h
  exact ⟨o.toNat, k.toNat, by omega, by omega, by omega⟩

theorem read_nil (x k : Int) (w : World) :
    Calls Try.prog 28 #[.pointer none, .int .i64 x, .int .i64 k] w fun e w' => e = .returned (.tuple #[.slice none 0 0, .int .i64 1]) ∧ w = w' := by
  go_enter Try.func28, Try.ntmps28
  go_wp2_with (go_at_call 42; refine (cut_nil x k _).mono ?_; rintro e w' ⟨rfl, rfl⟩)
  go_ret2
  exact ⟨rfl, rfl⟩

set_option maxHeartbeats 1000000 in
theorem read_any (b g : Nat) (base x k : Int) (l : List Int) (w : World) (h : IsA w b g base l) (hx : Fits x) (hk : Fits k) :
    Calls Try.prog 28 #[.pointer (some ⟨b, 0, none⟩), .int .i64 x, .int .i64 k] w fun e w' => ∃ a, e = .returned (.tuple #[.slice a (readR l (x - base) k).length (readR l (x - base) k).length, .int .i64 (errR l.length (x - base) k)]) ∧ Got w.heap.size w' a (readR l (x - base) k) ∧ Below w.heap.size w w' := by
  have H : Hid (IsA w b g base l) := h
  by_cases hin : inR l.length (x - base) k
  · rw [errR_in hin]
    obtain ⟨o, m, ho, hm, hom⟩ := inR_nat hin
    have hl := h.len
    obtain ⟨R, hR⟩ : ∃ R, readR l (x - base) k = R := ⟨_, rfl⟩
    have ER : Hid (readR l (x - base) k = R) := hR
    have hRl : R.length = m := by rw [← hR, readR_len hin, hm]; simp
    have EQ : Hid ((l.drop o).take m = R) := by show _ = _; rw [← hR, readR_in hin, ho, hm]; simp
    have EL : Hid (R.length = m) := hRl
    rw [hR, hRl]
    subst hm
    obtain ⟨wz, hwz⟩ : ∃ wz, w.alloc (.cells (cellsB (List.replicate m 0)).toArray 5) = wz := ⟨_, rfl⟩
    have BZ : Hid (Below w.heap.size w wz) := by show Below _ _ _; rw [← hwz]; exact (Below.refl _ w).alloc (Nat.le_refl _) _
    have RZ : Hid (RowB wz w.heap.size (List.replicate m 0)) := by show wz.heap[w.heap.size]? = _; rw [← hwz]; exact Go.heap_alloc_new w _
    have PZ : Hid (∀ ad, (m = 0 ∨ ad = some ⟨g, o, none⟩) → IsB wz ad R) := fun ad had => by rw [← EQ.out]; exact (h.row.keep BZ.out).part h.all o m ad hom had
    have MK : ∀ w : World, (Instr.makeSlice 35 (.int .i64 (m : Nat)) (.int .i64 (m : Nat))).run Try.prog w = .ok (.slice (some ⟨w.heap.size, 0, none⟩) m m) (w.alloc (.cells (cellsB (List.replicate m 0)).toArray 5)) := fun w => make_B w _ (by omega)
    clear h hin hR hRl
    go_enter Try.func28, Try.ntmps28
    go_wp2_with (first
      | (refine wpList_copyB rfl _ _ rfl w.heap.size 0 _ _ (List.replicate m 0) R _ ad _ _ m rfl rfl EL.out.symm (by simp) RZ.out (PZ.out ad HA.out) (by simp) (.inr rfl) ?_; intro w2 r2 o2; have R2 : Hid (RowB w2 w.heap.size R) := (by have q := r2; simp at q; rw [List.take_of_length_le (by rw [EL.out]; exact Nat.le_refl _)] at q; exact q); have B2 : Hid (Below w.heap.size w w2) := BZ.out.trans (o2.below (Nat.le_refl _)); clear r2 o2)
      | (go_at_call 42; refine (cut_in b g base x _ o m l _ H.out ho rfl hom).mono ?_; rintro e w' ⟨ad, cap, rfl, hA, rfl⟩; have HA : Hid (m = 0 ∨ ad = some ⟨g, o, none⟩) := hA; clear hA))
    go_ret2
    exact ⟨_, rfl, .inr ⟨_, rfl, Nat.le_refl _, R2.out⟩, B2.out⟩
  · rw [errR_out hin, readR_out hin]
    have HI : Hid (¬ inR l.length (x - base) k) := hin
    clear h hin
    go_enter Try.func28, Try.ntmps28
    go_wp2_with (go_at_call 42; refine (cut_out b g base x k l _ H.out hx hk HI.out).mono ?_; rintro e w' ⟨rfl, rfl⟩)
    go_ret2
    exact ⟨none, rfl, .inl rfl, Below.refl _ _⟩

theorem write_nil (a : Option Addr) (n cap : Nat) (x : Int) (w : World) :
    Calls Try.prog 24 #[.pointer none, .int .i64 x, .slice a n cap] w fun e w' => e = .returned (.int .i64 1) ∧ w = w' := by
  go_enter Try.func24, Try.ntmps24
  go_wp2_with (first
    | (refine wpList_copy0 rfl _ _ rfl 0 0 n cap none a rfl rfl (by simp) ?_)
    | (go_at_call 42; refine (cut_nil x _ _).mono ?_; rintro e w' ⟨rfl, rfl⟩))
  go_ret
  exact ⟨rfl, rfl⟩

set_option maxHeartbeats 1000000 in
theorem write_any (b g : Nat) (base x : Int) (l bs : List Int) (a : Option Addr) (n cap : Nat) (w : World) (h : IsA w b g base l) (hx : Fits x) (hn : n = bs.length) (hB : IsB w a bs) (hm : n ≤ maxLen) :
    Calls Try.prog 24 #[.pointer (some ⟨b, 0, none⟩), .int .i64 x, .slice a n cap] w fun e w' => e = .returned (.int .i64 (errR l.length (x - base) bs.length)) ∧ IsA w' b g base (writeR l (x - base) bs) ∧ Tg g w w' := by
  have H : Hid (IsA w b g base l) := h
  have HB : Hid (IsB w a bs) := hB
  have hfn : Fits (n : Int) := by unfold Fits; unfold maxLen at hm; omega
  by_cases hin : inR l.length (x - base) bs.length
  · have EW : Hid (writeR l (x - base) bs = overR l (x - base).toNat bs) := if_pos hin
    rw [errR_in hin, EW.out]
    obtain ⟨o, m, ho, hm', hom⟩ := inR_nat hin
    obtain rfl : n = m := by omega
    have HN : Hid (n = bs.length) := hn
    have hl := h.len
    rw [show (x - base).toNat = o from by omega]
    have FIN : Hid (∀ w2, RowB w2 g (l.take o ++ bs.take n ++ l.drop (o + n)) → Only g w w2 → IsA w2 b g base (overR l o bs) ∧ Tg g w w2) := fun w2 r2 o2 => by
      rw [hn, List.take_length] at r2
      exact ⟨h.turned (Tg.ofOnly o2) r2 (h.all.over hB.all o) (overR_len (by omega)), Tg.ofOnly o2⟩
    clear h hin hB hn hm'
    go_enter Try.func24, Try.ntmps24
    go_wp2_with (first
      | (refine wpList_copyB rfl _ _ rfl g o _ _ l bs _ a _ _ n rfl rfl HN.out (by simp) H.out.row HB.out hom HA.out ?_; intro w2 r2 o2; have F2 : Hid (IsA w2 b g base (overR l o bs) ∧ Tg g w w2) := FIN.out w2 r2 o2; clear r2 o2)
      | (go_at_call 42; refine (cut_in b g base x _ o n l _ H.out ho rfl hom).mono ?_; rintro e w' ⟨ad, cap, rfl, hA, rfl⟩; have HA : Hid (n = 0 ∨ ad = some ⟨g, o, none⟩) := hA; clear hA))
    go_ret
    exact ⟨rfl, F2.out⟩
  · rw [errR_out hin, show writeR l (x - base) bs = l from if_neg hin]
    have HI : Hid (¬ inR l.length (x - base) (n : Nat)) := by show ¬ _; rw [hn]; exact hin
    clear h hin hB hn
    go_enter Try.func24, Try.ntmps24
    go_wp2_with (first
      | (refine wpList_copy0 rfl _ _ rfl 0 0 n cap none a rfl rfl (by simp) ?_)
      | (go_at_call 42; refine (cut_out b g base x (n : Nat) l _ H.out hx hfn HI.out).mono ?_; rintro e w' ⟨rfl, rfl⟩))
    go_ret
    exact ⟨rfl, H.out, Tg.refl _ _⟩

theorem zero_nil (x k : Int) (w : World) :
    Calls Try.prog 30 #[.pointer none, .int .i64 x, .int .i64 k] w fun e w' => e = .returned (.int .i64 1) ∧ w = w' := by
  go_enter Try.func30, Try.ntmps30
  go_wp2_with (first
    | (refine wpList_clear0 rfl _ rfl 0 none rfl ?_)
    | (go_at_call 42; refine (cut_nil x _ _).mono ?_; rintro e w' ⟨rfl, rfl⟩))
  go_ret
  exact ⟨rfl, rfl⟩

set_option maxHeartbeats 1000000 in
theorem zero_any (b g : Nat) (base x k : Int) (l : List Int) (w : World) (h : IsA w b g base l) (hx : Fits x) (hk : Fits k) :
    Calls Try.prog 30 #[.pointer (some ⟨b, 0, none⟩), .int .i64 x, .int .i64 k] w fun e w' => e = .returned (.int .i64 (errR l.length (x - base) k)) ∧ IsA w' b g base (zeroR l (x - base) k) ∧ Tg g w w' := by
  have H : Hid (IsA w b g base l) := h
  by_cases hin : inR l.length (x - base) k
  · have EW : Hid (zeroR l (x - base) k = overR l (x - base).toNat (List.replicate k.toNat 0)) := if_pos hin
    rw [errR_in hin, EW.out]
    obtain ⟨o, m, ho, rfl, hom⟩ := inR_nat hin
    have hl := h.len
    rw [show (x - base).toNat = o from by omega, Int.toNat_natCast]
    have FIN : Hid (∀ w2, RowB w2 g (overR l o (List.replicate m 0)) → Only g w w2 → IsA w2 b g base (overR l o (List.replicate m 0)) ∧ Tg g w w2) := fun w2 r2 o2 =>
      ⟨h.turned (Tg.ofOnly o2) r2 (h.all.over (AllB.zeros m) o) (overR_len (by simpa using hom)), Tg.ofOnly o2⟩
    clear h hin
    go_enter Try.func30, Try.ntmps30
    go_wp2_with (first
      | (refine wpList_clearB rfl _ rfl g o m cap ad l rfl H.out.row hom HA.out ?_; intro w2 r2 o2; have F2 : Hid (IsA w2 b g base (overR l o (List.replicate m 0)) ∧ Tg g w w2) := FIN.out w2 r2 o2; clear r2 o2)
      | (go_at_call 42; refine (cut_in b g base x _ o m l _ H.out ho rfl hom).mono ?_; rintro e w' ⟨ad, cap, rfl, hA, rfl⟩; have HA : Hid (m = 0 ∨ ad = some ⟨g, o, none⟩) := hA; clear hA))
    go_ret
    exact ⟨rfl, F2.out⟩
  · rw [errR_out hin, show zeroR l (x - base) k = l from if_neg hin]
    have HI : Hid (¬ inR l.length (x - base) k) := hin
    clear h hin
    go_enter Try.func30, Try.ntmps30
    go_wp2_with (first
      | (refine wpList_clear0 rfl _ rfl 0 none rfl ?_)
      | (go_at_call 42; refine (cut_out b g base x k l _ H.out hx hk HI.out).mono ?_; rintro e w' ⟨rfl, rfl⟩))
    go_ret
    exact ⟨rfl, H.out, Tg.refl _ _⟩

theorem move_nil (x y k : Int) (w : World) :
    Calls Try.prog 25 #[.pointer none, .int .i64 x, .int .i64 y, .int .i64 k] w fun e w' => e = .returned (.int .i64 1) ∧ w = w' := by
  go_enter Try.func25, Try.ntmps25
  go_wp2_with (go_at_call 42; refine (cut_nil x _ _).mono ?_; rintro e w' ⟨rfl, rfl⟩)
  go_ret
  exact ⟨rfl, rfl⟩

set_option maxHeartbeats 1000000 in
theorem move_any (b g : Nat) (base x y k : Int) (l : List Int) (w : World) (h : IsA w b g base l) (hx : Fits x) (hy : Fits y) (hk : Fits k) :
    Calls Try.prog 25 #[.pointer (some ⟨b, 0, none⟩), .int .i64 x, .int .i64 y, .int .i64 k] w fun e w' => e = .returned (.int .i64 (moveE l.length (x - base) (y - base) k)) ∧ IsA w' b g base (moveR l (x - base) (y - base) k) ∧ Tg g w w' := by
  have H : Hid (IsA w b g base l) := h
  by_cases hin : inR l.length (x - base) k
  · by_cases hin2 : inR l.length (y - base) k
    · have EW : Hid (moveR l (x - base) (y - base) k = overR l (y - base).toNat (readR l (x - base) k)) := if_pos ⟨hin, hin2⟩
      rw [show moveE l.length (x - base) (y - base) k = 0 from if_pos ⟨hin, hin2⟩, EW.out]
      obtain ⟨o, m, ho, rfl, hom⟩ := inR_nat hin
      obtain ⟨p, m2, hp, hm2, hpm⟩ := inR_nat hin2
      obtain rfl : m = m2 := by omega
      have hl := h.len
      obtain ⟨R, hR⟩ : ∃ R, readR l (x - base) (m : Nat) = R := ⟨_, rfl⟩
      have hRl : R.length = m := by rw [← hR, readR_len hin]; simp
      have EQ : Hid ((l.drop o).take m = R) := by show _ = _; rw [← hR, readR_in hin, ho]; simp
      have EL : Hid (R.length = m) := hRl
      have AR : Hid (AllB R) := by show AllB _; rw [← hR]; exact h.all.read _ _
      rw [show (y - base).toNat = p from by omega, hR]
      have PZ : Hid (∀ ad, (m = 0 ∨ ad = some ⟨g, o, none⟩) → IsB w ad R) := fun ad had => by rw [← EQ.out]; exact h.row.part h.all o m ad hom had
      have FIN : Hid (∀ w2, RowB w2 g (l.take p ++ R.take m ++ l.drop (p + m)) → Only g w w2 → IsA w2 b g base (overR l p R) ∧ Tg g w w2) := fun w2 r2 o2 => by
        rw [← EL.out, List.take_length] at r2
        exact ⟨h.turned (Tg.ofOnly o2) r2 (h.all.over AR.out p) (overR_len (by omega)), Tg.ofOnly o2⟩
      clear h hin hin2 hR hRl hm2
      go_enter Try.func25, Try.ntmps25
      go_wp2_with fail
      refine (cut_in b g base x _ o m l _ H.out ho rfl hom).mono ?_
      rintro e w' ⟨ad, cap, rfl, hA, rfl⟩
      have HA : Hid (m = 0 ∨ ad = some ⟨g, o, none⟩) := hA
      clear hA
      go_wp2_with fail
      refine (cut_in b g base y _ p m l _ H.out hp rfl hpm).mono ?_
      rintro e w' ⟨ad2, cap2, rfl, hA, rfl⟩
      have HA2 : Hid (m = 0 ∨ ad2 = some ⟨g, p, none⟩) := hA
      clear hA
      go_wp2_with (refine wpList_copyB rfl _ _ rfl g p _ _ l R _ ad _ _ m rfl rfl EL.out.symm (by simp) H.out.row (PZ.out ad HA.out) hpm HA2.out ?_; intro w2 r2 o2; have F2 : Hid (IsA w2 b g base (overR l p R) ∧ Tg g w w2) := FIN.out w2 r2 o2; clear r2 o2)
      go_ret
      exact ⟨rfl, F2.out⟩
    · rw [show moveE l.length (x - base) (y - base) k = 10 from if_neg (fun e => hin2 e.2), show moveR l (x - base) (y - base) k = l from if_neg (fun e => hin2 e.2)]
      obtain ⟨o, m, ho, rfl, hom⟩ := inR_nat hin
      have HI : Hid (¬ inR l.length (y - base) (m : Nat)) := hin2
      clear h hin hin2
      go_enter Try.func25, Try.ntmps25
      go_wp2_with fail
      refine (cut_in b g base x _ o m l _ H.out ho rfl hom).mono ?_
      rintro e w' ⟨ad, cap, rfl, hA, rfl⟩
      clear hA
      go_wp2_with fail
      refine (cut_out b g base y _ l _ H.out hy hk HI.out).mono ?_
      rintro e w' ⟨rfl, rfl⟩
      go_wp2_with (refine wpList_copy0 rfl _ _ rfl 0 0 m cap none ad rfl rfl (by simp) ?_)
      go_ret
      exact ⟨rfl, H.out, Tg.refl _ _⟩
  · rw [show moveE l.length (x - base) (y - base) k = 10 from if_neg (fun e => hin e.1), show moveR l (x - base) (y - base) k = l from if_neg (fun e => hin e.1)]
    have HI : Hid (¬ inR l.length (x - base) k) := hin
    clear h hin
    go_enter Try.func25, Try.ntmps25
    go_wp2_with (go_at_call 42; refine (cut_out b g base x k l _ H.out hx hk HI.out).mono ?_; rintro e w' ⟨rfl, rfl⟩)
    go_ret
    exact ⟨rfl, H.out, Tg.refl _ _⟩
end Go.Proofs.Ytjejholognpbaaa
