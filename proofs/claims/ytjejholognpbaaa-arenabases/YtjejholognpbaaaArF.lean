/- What Word, Put, Place, Addr, Bytes, Good and New answer. -/
import Derived.Test.YtjejholognpbaaaArE
namespace Go.Proofs.Ytjejholognpbaaa
open Go.RowKit
set_option linter.unusedVariables false

theorem word_nil (x : Int) (w : World) :
    Calls Try.prog 31 #[.pointer none, .int .i64 x] w fun e w' => e = .returned (.tuple #[.int .u64 0, .int .i64 1]) ∧ w = w' := by
  go_enter Try.func31, Try.ntmps31
  go_wp2_with (first
    | (go_at_call 43; refine (get_of none 0 0 [] 0 _ rfl rfl (IsB.nil _ _) (Nat.zero_le _)).mono ?_; rintro e w' ⟨rfl, rfl⟩)
    | (go_at_call 42; refine (cut_nil x 8 _).mono ?_; rintro e w' ⟨rfl, rfl⟩))
  go_ret2
  exact ⟨rfl, rfl⟩
theorem word_any (b g : Nat) (base x : Int) (l : List Int) (w : World) (h : IsA w b g base l) (hx : Fits x) :
    Calls Try.prog 31 #[.pointer (some ⟨b, 0, none⟩), .int .i64 x] w fun e w' => e = .returned (.tuple #[.int .u64 (wordR l (x - base)), .int .i64 (errR l.length (x - base) 8)]) ∧ w = w' := by
  have H : Hid (IsA w b g base l) := h
  by_cases hin : inR l.length (x - base) 8
  · rw [errR_in hin]
    obtain ⟨o, m, ho, hm, hom⟩ := inR_nat hin
    obtain rfl : m = 8 := by omega
    obtain ⟨V, hV⟩ : ∃ V, wordR l (x - base) = V := ⟨_, rfl⟩
    have HV : Hid (getL (((l.drop o).take 8).take 8) = V) := by
      show _ = _
      rw [← hV, wordR, readR_in hin, ho]
      simp [List.take_take]
    have HP : Hid (∀ ad, (8 = 0 ∨ ad = some ⟨g, o, none⟩) → IsB w ad ((l.drop o).take 8)) := fun ad had => h.row.part h.all o 8 ad hom had
    have HL : Hid (8 = ((l.drop o).take 8).length) := by show _ = _; simp; omega
    rw [hV]
    clear h hin hV hm
    go_enter Try.func31, Try.ntmps31
    go_wp2_with (first
      | (go_at_call 43; refine (get_of ad _ 8 ((l.drop o).take 8) V _ HL.out HV.out (HP.out ad HA.out) (by rw [← HL.out]; decide)).mono ?_; rintro e w' ⟨rfl, rfl⟩)
      | (go_at_call 42; refine (cut_in b g base x 8 o 8 l _ H.out ho rfl hom).mono ?_; rintro e w' ⟨ad, cap, rfl, hA, rfl⟩; have HA : Hid (8 = 0 ∨ ad = some ⟨g, o, none⟩) := hA; clear hA))
    go_ret2
    exact ⟨rfl, rfl⟩
  · rw [errR_out hin, show wordR l (x - base) = 0 from by rw [wordR, readR_out hin]; rfl]
    have HI : Hid (¬ inR l.length (x - base) 8) := hin
    clear h hin
    go_enter Try.func31, Try.ntmps31
    go_wp2_with (first
      | (go_at_call 43; refine (get_of none 0 0 [] 0 _ rfl rfl (IsB.nil _ _) (Nat.zero_le _)).mono ?_; rintro e w' ⟨rfl, rfl⟩)
      | (go_at_call 42; refine (cut_out b g base x 8 l _ H.out hx (by unfold Fits; omega) HI.out).mono ?_; rintro e w' ⟨rfl, rfl⟩))
    go_ret2
    exact ⟨rfl, rfl⟩

theorem putw_nil (x v : Int) (w : World) (h0 : 0 ≤ v) (h1 : v ≤ 18446744073709551615) :
    Calls Try.prog 32 #[.pointer none, .int .i64 x, .int .u64 v] w fun e w' => e = .returned (.int .i64 1) ∧ Below w.heap.size w w' := by
  go_enter Try.func32, Try.ntmps32
  go_wp2_with (first
    | (go_at_call 24; refine (write_nil _ _ _ x _).mono ?_; rintro e w' ⟨rfl, rfl⟩)
    | (go_at_call 44; refine (put_word v h0 h1 _).mono ?_; rintro e w' ⟨rfl, r1, b1⟩; have B1 : Hid (Below w.heap.size w w') := b1; clear r1 b1))
  go_ret
  exact ⟨rfl, B1.out⟩
theorem putw_any (b g : Nat) (base x v : Int) (l : List Int) (w : World) (h : IsA w b g base l) (hx : Fits x) (h0 : 0 ≤ v) (h1 : v ≤ 18446744073709551615) :
    Calls Try.prog 32 #[.pointer (some ⟨b, 0, none⟩), .int .i64 x, .int .u64 v] w fun e w' => e = .returned (.int .i64 (errR l.length (x - base) 8)) ∧ IsA w' b g base (writeR l (x - base) (putL 8 v)) ∧ Tg g w w' := by
  have H : Hid (IsA w b g base l) := h
  clear h
  obtain ⟨P, hP⟩ : ∃ P, putL 8 v = P := ⟨_, rfl⟩
  have PA : Hid (AllB P) := by show AllB _; rw [← hP]; exact putL_byte 8 v
  have PL : Hid (8 = P.length) := by show _ = _; rw [← hP, putL_length]
  have EP : Hid (putL 8 v = P) := hP
  obtain ⟨E, hE⟩ : ∃ E, errR l.length (x - base) 8 = E := ⟨_, rfl⟩
  have EE : Hid (errR l.length (x - base) P.length = E) := by show _ = _; rw [← PL.out]; exact hE
  rw [hP, hE]
  clear hP hE
  go_enter Try.func32, Try.ntmps32
  go_wp2_with fail
  refine (put_word v h0 h1 _).mono ?_
  rintro e w1 ⟨rfl, r1, b1⟩
  rw [EP.out] at r1
  have B1 : Hid (Below w.heap.size w w1) := b1
  have R1 : Hid (RowB w1 w.heap.size P) := r1
  clear r1 b1
  go_wp2_with fail
  refine (write_any b g base x l P _ 8 8 _ (H.out.keep B1.out) hx PL.out (R1.out.isB PA.out) (by decide)).mono ?_
  rw [EE.out]
  rintro e w2 ⟨rfl, i2, t2⟩
  have I2 : Hid (IsA w2 b g base (writeR l (x - base) P)) := i2
  have T2 : Hid (Tg g w w2) := (Tg.ofBelow B1.out).trans t2
  clear i2 t2
  go_wp2
  go_ret
  exact ⟨rfl, I2.out, T2.out⟩

theorem place_nil (x : Int) (w : World) :
    Calls Try.prog 27 #[.pointer none, .int .i64 x] w fun e w' => e = .returned (.tuple #[.int .i64 0, .int .i64 0, .bool false]) ∧ w = w' := by
  go_enter Try.func27, Try.ntmps27
  go_wp2_with (go_at_call 20; refine (in_nil x 1 _).mono ?_; rintro e w' ⟨rfl, rfl⟩)
  refine bodyPost_ret (v := .tuple #[.int .i64 0, .int .i64 0, .bool false]) (by simp [results, Try.results27, go_sem]) rfl ⟨rfl, rfl⟩
theorem place_any (b g : Nat) (base x : Int) (l : List Int) (w : World) (h : IsA w b g base l) (hx : Fits x) :
    Calls Try.prog 27 #[.pointer (some ⟨b, 0, none⟩), .int .i64 x] w fun e w' => e = .returned (.tuple #[.int .i64 (placeR l.length (x - base)).1, .int .i64 (placeR l.length (x - base)).2.1, .bool (placeR l.length (x - base)).2.2]) ∧ w = w' := by
  have H : Hid (IsA w b g base l) := h
  have c0 := h.cell0
  by_cases hin : inR l.length (x - base) 1
  · rw [show placeR l.length (x - base) = ((x - base) / 256, (x - base) % 256, true) from if_pos hin]
    obtain ⟨o, m, ho, hm, hom⟩ := inR_nat hin
    have hl := h.len
    have HI : Hid (decide (inR l.length (x - base) 1) = true) := decide_eq_true hin
    rw [ho]
    clear h hin hm
    go_enter Try.func27, Try.ntmps27
    go_wp2_with (go_at_call 20; refine (in_of b g base x 1 true l _ H.out hx (by unfold Fits; omega) HI.out).mono ?_; rintro e w' ⟨rfl, rfl⟩)
    refine bodyPost_ret (v := .tuple #[.int .i64 ((o : Int) / 256), .int .i64 ((o : Int) % 256), .bool true]) (by simp [results, Try.results27, go_sem]) rfl ⟨rfl, rfl⟩
  · rw [show placeR l.length (x - base) = (0, 0, false) from if_neg hin]
    have HI : Hid (decide (inR l.length (x - base) 1) = false) := decide_eq_false hin
    clear h hin
    go_enter Try.func27, Try.ntmps27
    go_wp2_with (go_at_call 20; refine (in_of b g base x 1 false l _ H.out hx (by unfold Fits; omega) HI.out).mono ?_; rintro e w' ⟨rfl, rfl⟩)
    refine bodyPost_ret (v := .tuple #[.int .i64 0, .int .i64 0, .bool false]) (by simp [results, Try.results27, go_sem]) rfl ⟨rfl, rfl⟩

theorem addr_nil (p o : Int) (w : World) :
    Calls Try.prog 26 #[.pointer none, .int .i64 p, .int .i64 o] w fun e w' => e = .returned (.tuple #[.int .i64 0, .bool false]) ∧ w = w' := by
  by_cases h : p < 0
  · go_enter Try.func26, Try.ntmps26
    go_wp2
    go_ret2
    exact ⟨rfl, rfl⟩
  · go_enter Try.func26, Try.ntmps26
    go_wp2_with (go_at_call 18; refine (pages_nil _).mono ?_; rintro e w' ⟨rfl, rfl⟩)
    go_ret2
    exact ⟨rfl, rfl⟩
theorem addr_in (b g : Nat) (base p o : Int) (l : List Int) (w : World) (h : IsA w b g base l) (hin : hasP l.length p o) :
    Calls Try.prog 26 #[.pointer (some ⟨b, 0, none⟩), .int .i64 p, .int .i64 o] w fun e w' => e = .returned (.tuple #[.int .i64 (base + p * 256 + o), .bool true]) ∧ w = w' := by
  have H : Hid (IsA w b g base l) := h
  have c0 := h.cell0
  have hl := h.len
  have h1 := h.lo
  have h2 := h.hi
  unfold hasP at hin
  obtain ⟨i1, i2, i3, i4⟩ := hin
  obtain ⟨P, hP⟩ : ∃ P, l.length / 256 = P := ⟨_, rfl⟩
  have EP : Hid (l.length / 256 = P) := hP
  rw [hP] at i2
  have hP2 : P ≤ 4096 := by omega
  have n1 : ¬ (p < 0) := by omega
  have n2 : ¬ ((P : Int) ≤ p) := by omega
  have n3 : ¬ (o < 0) := by omega
  have n4 : ¬ (256 ≤ o) := by omega
  clear h hP
  go_enter Try.func26, Try.ntmps26
  go_wp2_with (go_at_call 18; refine (pages_any b g base l _ H.out).mono ?_; rw [EP.out]; rintro e w' ⟨rfl, rfl⟩)
  go_ret2
  exact ⟨rfl, rfl⟩
theorem addr_out (b g : Nat) (base p o : Int) (l : List Int) (w : World) (h : IsA w b g base l) (hin : ¬ hasP l.length p o) :
    Calls Try.prog 26 #[.pointer (some ⟨b, 0, none⟩), .int .i64 p, .int .i64 o] w fun e w' => e = .returned (.tuple #[.int .i64 0, .bool false]) ∧ w = w' := by
  have H : Hid (IsA w b g base l) := h
  unfold hasP at hin
  obtain ⟨P, hP⟩ : ∃ P, l.length / 256 = P := ⟨_, rfl⟩
  have EP : Hid (l.length / 256 = P) := hP
  rw [hP] at hin
  clear h hP
  by_cases a1 : p < 0
  · clear hin
    go_enter Try.func26, Try.ntmps26
    go_wp2
    go_ret2
    exact ⟨rfl, rfl⟩
  · by_cases a2 : (P : Int) ≤ p
    · clear hin
      go_enter Try.func26, Try.ntmps26
      go_wp2_with (go_at_call 18; refine (pages_any b g base l _ H.out).mono ?_; rw [EP.out]; rintro e w' ⟨rfl, rfl⟩)
      go_ret2
      exact ⟨rfl, rfl⟩
    · by_cases a3 : o < 0
      · clear hin
        go_enter Try.func26, Try.ntmps26
        go_wp2_with (go_at_call 18; refine (pages_any b g base l _ H.out).mono ?_; rw [EP.out]; rintro e w' ⟨rfl, rfl⟩)
        go_ret2
        exact ⟨rfl, rfl⟩
      · have a4 : 256 ≤ o := by omega
        clear hin
        go_enter Try.func26, Try.ntmps26
        go_wp2_with (go_at_call 18; refine (pages_any b g base l _ H.out).mono ?_; rw [EP.out]; rintro e w' ⟨rfl, rfl⟩)
        go_ret2
        exact ⟨rfl, rfl⟩

theorem bytes_nil (w : World) : Calls Try.prog 16 #[.pointer none] w fun e w' => e = .returned (.slice none 0 0) ∧ w = w' := by
  go_enter Try.func16, Try.ntmps16
  go_wp2_with (first
    | (go_at_call 28; refine (read_nil 0 0 _).mono ?_; rintro e w' ⟨rfl, rfl⟩)
    | (go_at_call 41; refine (size_nil _).mono ?_; rintro e w' ⟨rfl, rfl⟩)
    | (go_at_call 17; refine (base_nil _).mono ?_; rintro e w' ⟨rfl, rfl⟩))
  go_ret
  exact ⟨rfl, rfl⟩
theorem bytes_any (b g : Nat) (base : Int) (l : List Int) (w : World) (h : IsA w b g base l) :
    Calls Try.prog 16 #[.pointer (some ⟨b, 0, none⟩)] w fun e w' => ∃ a, e = .returned (.slice a l.length l.length) ∧ Got w.heap.size w' a l ∧ Below w.heap.size w w' := by
  have H : Hid (IsA w b g base l) := h
  have hl := h.len
  have h1 := h.lo
  have h2 := h.hi
  have hx : Fits base := by unfold Fits; omega
  have hk : Fits (l.length : Nat) := by unfold Fits; omega
  have ER : Hid (readR l (base - base) (l.length : Nat) = l) := by
    show _ = _
    rw [readR_in (by unfold inR; omega), Int.sub_self]
    simp
  clear h
  go_enter Try.func16, Try.ntmps16
  go_wp2_with (first
    | (go_at_call 28; refine (read_any b g base base _ l _ H.out hx hk).mono ?_; rw [ER.out]; rintro e w1 ⟨a, rfl, g1, b1⟩; have G1 : Hid (Got w.heap.size w1 a l) := g1; have B1 : Hid (Below w.heap.size w w1) := b1; clear g1 b1)
    | (go_at_call 41; refine (size_any b g base l _ H.out).mono ?_; rintro e w' ⟨rfl, rfl⟩)
    | (go_at_call 17; refine (base_any b g base l _ H.out).mono ?_; rintro e w' ⟨rfl, rfl⟩))
  go_ret
  exact ⟨a, rfl, G1.out, B1.out⟩

/-- A base that may be. -/
def goodR (x : Int) : Prop := 256 ≤ x ∧ x ≤ 1099511627776 ∧ x % 256 = 0
instance (x : Int) : Decidable (goodR x) := by unfold goodR; infer_instance
theorem good_any (x : Int) (w : World) : Calls Try.prog 22 #[.int .i64 x] w fun e w' => e = .returned (.bool (decide (goodR x))) ∧ w = w' := by
  by_cases a1 : x < 256
  · rw [decide_eq_false (p := goodR x) (by unfold goodR; omega)]
    go_enter Try.func22, Try.ntmps22
    go_wp2
    go_ret
    exact ⟨rfl, rfl⟩
  · by_cases a2 : 1099511627776 < x
    · rw [decide_eq_false (p := goodR x) (by unfold goodR; omega)]
      go_enter Try.func22, Try.ntmps22
      go_wp2
      go_ret
      exact ⟨rfl, rfl⟩
    · have n0 : 0 ≤ x := by omega
      have n2 : x ≤ 1099511627776 := by omega
      by_cases a3 : x % 256 = 0
      · rw [decide_eq_true (p := goodR x) (by unfold goodR; omega)]
        go_enter Try.func22, Try.ntmps22
        go_wp2
        go_ret
        exact ⟨rfl, rfl⟩
      · rw [decide_eq_false (p := goodR x) (by unfold goodR; omega)]
        go_enter Try.func22, Try.ntmps22
        go_wp2
        go_ret
        exact ⟨ret_bool (beq_eq_false_iff_ne.2 a3), rfl⟩
theorem good_of (x : Int) (v : Bool) (w : World) (hv : decide (goodR x) = v) : Calls Try.prog 22 #[.int .i64 x] w fun e w' => e = .returned (.bool v) ∧ w = w' := by
  subst hv; exact good_any x w

theorem new_arg (x p : Int) (w : World) (hp : p < 1 ∨ 4096 < p) :
    Calls Try.prog 10 #[.int .i64 x, .int .i64 p] w fun e w' => e = .returned (.tuple #[.pointer none, .int .i64 2]) ∧ w = w' := by
  by_cases h : p < 1
  · clear hp
    go_enter Try.func10, Try.ntmps10
    go_wp2
    go_ret2
    exact ⟨rfl, rfl⟩
  · have h2 : 4096 < p := by omega
    clear hp
    go_enter Try.func10, Try.ntmps10
    go_wp2
    go_ret2
    exact ⟨rfl, rfl⟩
theorem new_addr (x p : Int) (w : World) (h1 : 1 ≤ p) (h2 : p ≤ 4096) (hg : ¬ goodR x) :
    Calls Try.prog 10 #[.int .i64 x, .int .i64 p] w fun e w' => e = .returned (.tuple #[.pointer none, .int .i64 10]) ∧ w = w' := by
  have HG : Hid (decide (goodR x) = false) := decide_eq_false hg
  have n1 : ¬ (p < 1) := by omega
  have n2 : ¬ (4096 < p) := by omega
  clear hg
  go_enter Try.func10, Try.ntmps10
  go_wp2_with (go_at_call 22; refine (good_of x false _ HG.out).mono ?_; rintro e w' ⟨rfl, rfl⟩)
  go_ret2
  exact ⟨rfl, rfl⟩
set_option maxHeartbeats 1000000 in
theorem new_any (x : Int) (p : Nat) (w : World) (h1 : 1 ≤ p) (h2 : p ≤ 4096) (hg : goodR x) :
    Calls Try.prog 10 #[.int .i64 x, .int .i64 (p : Nat)] w fun e w' => e = .returned (.tuple #[.pointer (some ⟨w.heap.size + 1, 0, none⟩), .int .i64 0]) ∧ IsA w' (w.heap.size + 1) w.heap.size x (List.replicate (p * 256) 0) ∧ Below w.heap.size w w' ∧ w'.heap.size = w.heap.size + 2 := by
  have HG : Hid (decide (goodR x) = true) := decide_eq_true hg
  have HX : Hid (256 ≤ x ∧ x ≤ 1099511627776) := ⟨hg.1, hg.2.1⟩
  have n1 : ¬ ((p : Int) < 1) := by omega
  have n2 : ¬ (4096 < (p : Int)) := by omega
  have MK : ∀ w : World, (Instr.makeSlice 35 (.int .i64 ((p : Nat) * 256)) (.int .i64 ((p : Nat) * 256))).run Try.prog w = .ok (.slice (some ⟨w.heap.size, 0, none⟩) (p * 256) (p * 256)) (w.alloc (.cells (cellsB (List.replicate (p * 256) 0)).toArray 5)) := fun w => by
    have := make_B w (p * 256) (by omega)
    rw [Int.natCast_mul] at this
    exact this
  have FIN : Hid (IsA ((w.alloc (.cells (cellsB (List.replicate (p * 256) 0)).toArray 5)).alloc (.cells #[.int .i64 x, .slice (some ⟨w.heap.size, 0, none⟩) (p * 256) (p * 256)] 64)) (w.heap.size + 1) w.heap.size x (List.replicate (p * 256) 0)) := by
    have hr : RowB (w.alloc (.cells (cellsB (List.replicate (p * 256) 0)).toArray 5)) w.heap.size (List.replicate (p * 256) 0) := Go.heap_alloc_new w _
    refine ⟨?_, hr.keep ((Below.refl _ _).alloc (Nat.le_refl _) _), AllB.zeros _, by omega, HX.out.1, HX.out.2, by simp; omega⟩
    have := Go.heap_alloc_new (w.alloc (.cells (cellsB (List.replicate (p * 256) 0)).toArray 5)) (.cells #[.int .i64 x, .slice (some ⟨w.heap.size, 0, none⟩) (p * 256) (p * 256)] 64)
    rw [World.size_alloc] at this
    rw [this, List.length_replicate]
  clear hg
  go_enter Try.func10, Try.ntmps10
  go_wp2_with (go_at_call 22; refine (good_of x true _ HG.out).mono ?_; rintro e w' ⟨rfl, rfl⟩)
  go_ret2
  exact ⟨by simp, FIN.out, ((Below.refl _ w).alloc (Nat.le_refl _) _).alloc (by simp) _, by simp⟩
end Go.Proofs.Ytjejholognpbaaa
