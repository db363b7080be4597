/- Layer 21: Find of the program. -/
import Derived.Test.YtofmicbhheebiaaDoorMfFB
import Derived.Test.YtofmicbhheebiaaDoorDlC
import Derived.Test.YtofmicbhheebiaaDoorMfEC
namespace Go.Proofs.YtofmicbhheebiaaDoor
open Go.RowKit
set_option linter.unusedVariables false
set_option maxRecDepth 4000

/-- What a slot tells. -/
def slF (i : Int) (b : List Int) : List Fd := if wrongM b = 0 then [⟨i, rdM b⟩] else []
/-- What so many slots tell. -/
def accF (d : Dk) : Nat → List Fd
  | 0 => []
  | j + 1 => accF d j ++ slF (j : Nat) (readL d (secM (j : Nat) (d.n : Nat)))
/-- The manifests of a disk. -/
def fndF (d : Dk) : List Fd := sortF (accF d 2)
theorem slF_len (i : Int) (b : List Int) : (slF i b).length ≤ 1 := by unfold slF; split <;> simp
theorem accF_len (d : Dk) : ∀ j, (accF d j).length ≤ j
  | 0 => Nat.le_refl _
  | j + 1 => by
    have := accF_len d j
    have := slF_len (j : Nat) (readL d (secM (j : Nat) (d.n : Nat)))
    show (accF d j ++ slF (j : Nat) (readL d (secM (j : Nat) (d.n : Nat)))).length ≤ j + 1
    rw [List.length_append]; omega
theorem secM_in {n j : Nat} (h0 : 8 ≤ n) (h1 : n ≤ 65536) (hj : j < 2) : 0 ≤ secM (j : Nat) (n : Nat) ∧ secM (j : Nat) (n : Nat) < (n : Nat) := by
  unfold secM
  rw [if_neg (by omega)]
  split <;> omega

set_option maxRecDepth 20000 in
set_option maxHeartbeats 8000000 in
theorem mfindBy_open (base b m : Nat) (d : Dk) (w : World) (h : IsD w base b m d) (hd : d.down = false) (h0 : 8 ≤ d.n) (h1 : d.n ≤ 65536) :
    Calls Tryd.prog 29 #[.func (.func 30) #[.pointer (some ⟨b, 0, none⟩)] #[], .int .i64 (d.n : Nat)] w fun e w' => ∃ a c, e = .returned (.tuple #[.slice a (fndF d).length c, .nilIface]) ∧ Ow 50 w' w.heap.size a (fndF d) c ∧ Below w.heap.size w w' := by
  have H : Hid (IsD w base b m d) := h
  have HD : Hid (d.down = false) := hd
  have DOK : Hid (DkOk d) := h.ok
  have FL : Hid ((fndF d).length = (accF d 2).length) := sortF_len _
  have SEC : Hid (∀ j : Nat, j < 2 → 0 ≤ secM (j : Nat) (d.n : Nat) ∧ secM (j : Nat) (d.n : Nat) < (d.n : Nat)) := fun j hj => secM_in h0 h1 hj
  have RD : Hid (∀ (i : Int) (wr : World), 0 ≤ i → i < (d.n : Nat) → IsD wr base b m d → Calls Tryd.prog 30 #[.pointer (some ⟨b, 0, none⟩), .int .i64 i] wr fun e w' => e = .returned (.tuple #[.slice (some ⟨wr.heap.size, 0, none⟩) 64 64, .int .i64 0]) ∧ RowB w' wr.heap.size 74 (readL d i) ∧ Below wr.heap.size wr w') := fun i wr i0 i1 hw => read_open base b m d i wr hw (closedE_zero.2 ⟨hd, i0, i1⟩)
  have RL : Hid (∀ i : Int, 0 ≤ i → i < (d.n : Nat) → (readL d i).length = 64 ∧ AllB (readL d i)) := fun i i0 i1 => readL_ok DOK.out (closedE_zero.2 ⟨HD.out, i0, i1⟩)
  have MR : Hid (∀ (w : World) (g : Nat) (b : List Int), b.length = 64 → IsB w (some ⟨g, 0, none⟩) b → Calls Tryd.prog 18 #[.slice (some ⟨g, 0, none⟩) 64 64] w fun e w' => e = .returned (.tuple #[(rdM b).v, .int .i64 (wrongM b)]) ∧ Below w.heap.size w w') := fun w g b hb i => mread_any _ 64 64 b w i hb.symm (by omega) (by rw [hb]; decide)
  obtain ⟨N, hN⟩ : ∃ N, d.n = N := ⟨_, rfl⟩
  have HN : Hid (d.n = N) := hN
  rw [hN] at SEC RD RL h0 h1 ⊢
  clear h hd hN
  go_enter Tryd.func29, Tryd.ntmps29
  go_upto_region 3 with (fail)
  go_loopw [6, 13] (fun lv iv wr => ∃ (j : Nat) (a : Option Addr) (c : Nat), j ≤ 2 ∧ iv = .int .i64 (j : Nat) ∧ lv = .slice a (accF d j).length c ∧ Ow 50 wr w.heap.size a (accF d j) c ∧ Below w.heap.size w wr) (fun _ iv _ => 2 - (intOf iv).toNat)
  case atStart => exact ⟨0, none, 0, by omega, rfl, rfl, Ow.nil _ _, Below.refl _ _⟩
  case round =>
    obtain ⟨j, a, c, hj, rfl, rfl, ho, hb⟩ := hrel
    rename World => wr
    have O : Hid (Ow 50 wr w.heap.size a (accF d j) c) := ho
    have B : Hid (Below w.heap.size w wr) := hb
    have AL := accF_len d j
    clear ho hb
    by_cases hlt : j < 2
    · obtain ⟨s0, s1⟩ := SEC.out j hlt
      have AS : Hid (accF d (j + 1) = accF d j ++ slF (j : Nat) (readL d (secM (j : Nat) (N : Nat)))) := by show _ = _; rw [← HN.out]; rfl
      have MS : Hid (∀ w, Calls Tryd.prog 20 #[.int .i64 (j : Nat), .int .i64 (N : Nat)] w fun e w' => e = .returned (.int .i64 (secM (j : Nat) (N : Nat))) ∧ w = w') := fun w => msector_any _ _ w
      obtain ⟨S, hS⟩ : ∃ S, secM (j : Nat) (N : Nat) = S := ⟨_, rfl⟩
      rw [hS] at s0 s1 AS MS
      obtain ⟨l64, lB⟩ := RL.out S s0 s1
      have RS : Hid _ := RD.out S
      obtain ⟨R, hR⟩ : ∃ R, readL d S = R := ⟨_, rfl⟩
      rw [hR] at l64 lB AS RS
      have LB : Hid (AllB R) := lB
      have L64 : Hid (R.length = 64) := l64
      have jn : (j : Int) < 2 := by omega
      obtain ⟨A, hA⟩ : ∃ A, accF d j = A := ⟨_, rfl⟩
      rw [hA] at O AL AS ⊢
      clear hS hR hA l64 lB
      go_wp2_with (go_at_call 20; refine Calls.mono (MS.out _) ?_; rintro e w' ⟨rfl, rfl⟩)
      refine Calls.mono (RS.out wr s0 s1 (H.out.keep B.out)) ?_
      rintro e w1 ⟨rfl, r1, b1⟩
      have I1 : Hid (IsB w1 (some ⟨wr.heap.size, 0, none⟩) R) := r1.isB LB.out
      have B1 : Hid (Below wr.heap.size wr w1) := b1
      clear r1 b1
      go_wp2_with fail
      refine Calls.mono (MR.out _ _ R L64.out I1.out) ?_
      rintro e w2 ⟨rfl, b2⟩
      obtain ⟨W, hW⟩ : ∃ W, wrongM R = W := ⟨_, rfl⟩
      obtain ⟨⟨ms, mf, mk⟩, hm⟩ : ∃ m, rdM R = m := ⟨_, rfl⟩
      have SL : Hid (slF (j : Nat) R = if W = 0 then [⟨(j : Nat), ⟨ms, mf, mk⟩⟩] else []) := by show _ = _; unfold slF; rw [hW, hm]
      rw [hW, hm]
      unfold Mn.v
      obtain ⟨E, hE, rE, bE⟩ := box21 48 w2 ms mf mk
      have HE : Hid _ := hE
      have BE : Hid (Below wr.heap.size wr E) := B1.out.trans ((b2.trans (bE.mono b2.size)).mono B1.out.size)
      have OE : Hid (Ow 50 E w.heap.size a A c) := O.out.keep BE.out
      obtain ⟨y0, y1, y2⟩ := three21 rE
      obtain ⟨nE, hnE⟩ : ∃ n, w2.heap.size = n := ⟨_, rfl⟩
      rw [hnE] at y0 y1 y2
      have HNE : Hid (w2.heap.size = nE) := hnE
      clear hW hm hE rE bE b2 hnE
      by_cases hw : W = 0
      · subst hw
        have SL1 : Hid (accF d (j + 1) = A ++ [⟨(j : Nat), ⟨ms, mf, mk⟩⟩]) := by show _ = _; rw [AS.out, SL.out, if_pos rfl]
        have lw : w.heap.size ≤ E.heap.size := by have := B.out.size; have := BE.out.size; omega
        obtain ⟨a5, c5, w5, r5, o5, b5⟩ := appE_one rowT_c w.heap.size E lw a A c OE.out ⟨(j : Nat), ⟨ms, mf, mk⟩⟩ (by omega)
        rw [← SL1.out] at r5 o5
        have R5 : Hid _ := r5
        have O5 : Hid (Ow 50 w5 w.heap.size a5 (accF d (j + 1)) c5) := o5
        have B5 : Hid (Below w.heap.size w w5) := (B.out.trans (BE.out.mono B.out.size)).trans b5
        clear r5 o5 b5
        go_upto_region 10 with (fail)
        rw [HE.out]
        try rw [HNE.out]
        go_wp2_with (at_builtin; refine wpList_rune rfl rfl _ _ rfl _ _ _ _ rfl rfl R5.out ?_)
        go_roundw
        case rel => exact ⟨j + 1, a5, c5, by omega, by go_num, rfl, O5.out, B5.out⟩
        case measure => simp [intOf]; omega
      · have SL1 : Hid (accF d (j + 1) = A) := by show _ = _; rw [AS.out, SL.out, if_neg hw, List.append_nil]
        have wb : (W == 0) = false := by simpa using hw
        have BW : Hid (Below w.heap.size w E) := B.out.trans (BE.out.mono B.out.size)
        go_upto_region 10 with (fail)
        rw [HE.out]
        try rw [HNE.out]
        go_wp2
        go_roundw
        case rel => exact ⟨j + 1, a, c, by omega, by go_num, by rw [SL1.out], by rw [SL1.out]; exact OE.out, BW.out⟩
        case measure => simp [intOf]; omega
    · obtain rfl : j = 2 := by omega
      have ST : Hid (Calls Tryd.prog 45 #[.slice a (accF d 2).length c, .func (.func 46) #[] #[]] wr fun e w' => e = .returned (.tuple #[]) ∧ Ow 50 w' w.heap.size a (fndF d) c ∧ Below w.heap.size wr w') := msort_any O.out B.out.size AL
      rw [← FL.out] at ST ⊢
      go_wp2_with (go_at_call 45; refine Calls.mono ST.out ?_; rintro e w2 ⟨rfl, o2, b2⟩; have O2 : Hid (Ow 50 w2 w.heap.size a (fndF d) c) := o2; have B2 : Hid (Below w.heap.size w w2) := B.out.trans b2; clear o2 b2)
      go_ret2
      exact ⟨a, c, rfl, O2.out, B2.out⟩
end Go.Proofs.YtofmicbhheebiaaDoor
