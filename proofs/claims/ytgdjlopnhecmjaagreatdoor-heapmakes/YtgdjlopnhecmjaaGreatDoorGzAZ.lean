/- Layer 15: ArB again -/
import Derived.Test.YtgdjlopnhecmjaaGreatDoorGzAY
import Derived.Test.YtgdjlopnhecmjaaGreatDoorGzAJ
import Derived.Lib.BitFns
import Derived.WalkKit
import Derived.Test.YtgdjlopnhecmjaaGreatDoorRows
import Derived.WalkLawsBesides
import Derived.Below
import Derived.ProofKit
import Derived.OpenShut
import Derived.ChangeOld
import Derived.SizedLaws
import Derived.OwnWalk
import Derived.WalkSmall
import Derived.Laws.AppendOwnNone
import Derived.Laws.IdiomStrings
import Derived.Laws.IdiomCopy
import Derived.Laws.CopyRow
import Derived.Laws.MakeOwn
import Derived.Deep.MidRow
import Derived.Deep.WholeRow
import Derived.Deep.OwnRows
import Derived.Deep.RegionHeld3
import Derived.Lib.SlBytesConst
import Derived.BigQuiet
import Derived.Test.YtgdjlopnhecmjaaGreatDoorGzAW
namespace Go.Proofs.YtgdjlopnhecmjaaGreatDoor
open Go.RowKit
set_option linter.unusedVariables false
set_option maxRecDepth 4000
theorem zwithin_any (n : Int) (w : World) :
    Calls Tryz.prog 215 #[.int .i64 n] w fun e w' => e = .returned (.int .i64 (clampW n)) ∧ w = w' := by
  go_enter Tryz.func215, Tryz.ntmps215
  go_wp2
  all_goals (go_ret; refine ⟨congrArg Ending.returned (congrArg (Value.int IntKind.i64) ?_), rfl⟩; unfold clampW; split <;> (try split) <;> omega)

set_option maxHeartbeats 1000000 in
theorem put8 (n width : Int) (hK : clampW width = 8) (_h0 : 0 ≤ n) (_h1 : n ≤ 18446744073709551615) (w : World) :
    Calls Tryz.prog 169 #[.int .u64 n, .int .i64 width] w fun e w' => e = .returned (.slice (some ⟨w.heap.size, 0, none⟩) 8 8) ∧ w' = w.alloc (.cells #[.int .u8 (n % 256), .int .u8 (n / 256 % 256), .int .u8 (n / 65536 % 256), .int .u8 (n / 16777216 % 256), .int .u8 (n / 4294967296 % 256), .int .u8 (n / 1099511627776 % 256), .int .u8 (n / 281474976710656 % 256), .int .u8 (n / 72057594037927936 % 256)] 5) := by
  have hmk : ∀ w : World, (Instr.makeSlice 39 (.int .i64 8) (.int .i64 8)).run Tryz.prog w = .ok (.slice (some ⟨w.heap.size, 0, none⟩) 8 8) (w.alloc (.cells #[.int .u8 0, .int .u8 0, .int .u8 0, .int .u8 0, .int .u8 0, .int .u8 0, .int .u8 0, .int .u8 0] 5)) := fun _ => by kernel_rfl
  go_enter Tryz.func169, Tryz.ntmps169
  go_wp2_with (go_at_call 215; refine (zwithin_any width _).mono ?_; rintro e w' ⟨rfl, rfl⟩; rw [hK])
  go_ret
  exact ⟨rfl, by rw [show n / 72057594037927936 % 256 = n / 72057594037927936 from by omega]⟩

theorem div_steps (n : Int) : n / 256 / 256 = n / 65536 ∧ n / 65536 / 256 = n / 16777216 ∧ n / 16777216 / 256 = n / 4294967296 ∧ n / 4294967296 / 256 = n / 1099511627776 ∧ n / 1099511627776 / 256 = n / 281474976710656 ∧ n / 281474976710656 / 256 = n / 72057594037927936 := by omega

theorem put_word (n : Int) (h0 : 0 ≤ n) (h1 : n ≤ 18446744073709551615) (w : World) :
    Calls Tryz.prog 169 #[.int .u64 n, .int .i64 8] w fun e w' => e = .returned (.slice (some ⟨w.heap.size, 0, none⟩) 8 8) ∧ RowB w' w.heap.size (putL 8 n) ∧ Below w.heap.size w w' := by
  obtain ⟨d2, d3, d4, d5, d6, d7⟩ := div_steps n
  refine (put8 n 8 rfl h0 h1 w).mono ?_
  rintro e w' ⟨rfl, rfl⟩
  refine ⟨rfl, ?_, (Below.refl _ w).alloc (Nat.le_refl _) _⟩
  have := Go.heap_alloc_new w (.cells ((putL 8 n).map (Value.int .u8)).toArray 5)
  simp only [putL, d2, d3, d4, d5, d6, d7, List.map_cons, List.map_nil] at this
  show _ = _
  simp only [cellsB, putL, d2, d3, d4, d5, d6, d7, List.map_cons, List.map_nil]
  exact this
end Go.Proofs.YtgdjlopnhecmjaaGreatDoor

/- Layer 15: ArD again -/
namespace Go.Proofs.YtgdjlopnhecmjaaGreatDoor
open Go.RowKit
set_option linter.unusedVariables false
set_option maxRecDepth 4000
/-- The code's arena. -/
def IsA (w : World) (b g : Nat) (base : Int) (l : List Int) : Prop := Ar 179 w b g base l

theorem zsize_any (b g : Nat) (base : Int) (l : List Int) (w : World) (h : IsA w b g base l) :
    Calls Tryz.prog 112 #[.pointer (some ⟨b, 0, none⟩)] w fun e w' => e = .returned (.int .i64 (l.length : Nat)) ∧ w = w' := by
  have c1 := h.cell1
  clear h
  go_enter Tryz.func112, Tryz.ntmps112
  go_wp2
  go_ret
  exact ⟨rfl, rfl⟩
theorem base_any (b g : Nat) (base : Int) (l : List Int) (w : World) (h : IsA w b g base l) :
    Calls Tryz.prog 50 #[.pointer (some ⟨b, 0, none⟩)] w fun e w' => e = .returned (.int .i64 base) ∧ w = w' := by
  have c0 := h.cell0
  clear h
  go_enter Tryz.func50, Tryz.ntmps50
  go_wp2
  go_ret
  exact ⟨rfl, rfl⟩
theorem zpages_any (b g : Nat) (base : Int) (l : List Int) (w : World) (h : IsA w b g base l) :
    Calls Tryz.prog 51 #[.pointer (some ⟨b, 0, none⟩)] w fun e w' => e = .returned (.int .i64 ((l.length / 256 : Nat) : Int)) ∧ w = w' := by
  have H : Hid (IsA w b g base l) := h
  have hl := h.len
  clear h
  go_enter Tryz.func51, Tryz.ntmps51
  go_wp2_with (go_at_call 112; refine (zsize_any b g base l _ H.out).mono ?_; rintro e w' ⟨rfl, rfl⟩)
  go_ret
  exact ⟨rfl, rfl⟩
theorem zend_any (b g : Nat) (base : Int) (l : List Int) (w : World) (h : IsA w b g base l) :
    Calls Tryz.prog 224 #[.pointer (some ⟨b, 0, none⟩)] w fun e w' => e = .returned (.int .i64 (base + (l.length : Nat))) ∧ w = w' := by
  have H : Hid (IsA w b g base l) := h
  have hl := h.len
  have h1 := h.lo
  have h2 := h.hi
  clear h
  go_enter Tryz.func224, Tryz.ntmps224
  go_wp2_with (first
    | (go_at_call 112; refine (zsize_any b g base l _ H.out).mono ?_; rintro e w' ⟨rfl, rfl⟩)
    | (go_at_call 50; refine (base_any b g base l _ H.out).mono ?_; rintro e w' ⟨rfl, rfl⟩))
  go_ret
  exact ⟨rfl, rfl⟩
/-- A number that an int holds. -/
def Fits (x : Int) : Prop := -9223372036854775808 ≤ x ∧ x ≤ 9223372036854775807

theorem in_any (b g : Nat) (base x k : Int) (l : List Int) (w : World) (h : IsA w b g base l) (hx : Fits x) (hk : Fits k) :
    Calls Tryz.prog 184 #[.pointer (some ⟨b, 0, none⟩), .int .i64 x, .int .i64 k] w fun e w' => e = .returned (.bool (decide (inR l.length (x - base) k))) ∧ w = w' := by
  have H : Hid (IsA w b g base l) := h
  have c0 := h.cell0
  have hl := h.len
  have h1 := h.lo
  have h2 := h.hi
  unfold Fits at hx hk
  clear h
  by_cases a1 : k < 0
  · rw [decide_eq_false (p := inR l.length (x - base) k) (by unfold inR; omega)]
    go_enter Tryz.func184, Tryz.ntmps184
    go_wp2
    go_ret
    exact ⟨rfl, rfl⟩
  · by_cases a2 : x < base
    · rw [decide_eq_false (p := inR l.length (x - base) k) (by unfold inR; omega)]
      go_enter Tryz.func184, Tryz.ntmps184
      go_wp2
      go_ret
      exact ⟨rfl, rfl⟩
    · by_cases a3 : base + (l.length : Nat) - x < k
      · rw [decide_eq_false (p := inR l.length (x - base) k) (by unfold inR; omega)]
        go_enter Tryz.func184, Tryz.ntmps184
        go_wp2_with (go_at_call 224; refine (zend_any b g base l _ H.out).mono ?_; rintro e w' ⟨rfl, rfl⟩)
        go_ret
        exact ⟨ret_bool (decide_eq_false (by omega)), rfl⟩
      · rw [decide_eq_true (p := inR l.length (x - base) k) (by unfold inR; omega)]
        go_enter Tryz.func184, Tryz.ntmps184
        go_wp2_with (go_at_call 224; refine (zend_any b g base l _ H.out).mono ?_; rintro e w' ⟨rfl, rfl⟩)
        go_ret
        exact ⟨rfl, rfl⟩
theorem in_of (b g : Nat) (base x k : Int) (v : Bool) (l : List Int) (w : World) (h : IsA w b g base l) (hx : Fits x) (hk : Fits k) (hv : decide (inR l.length (x - base) k) = v) :
    Calls Tryz.prog 184 #[.pointer (some ⟨b, 0, none⟩), .int .i64 x, .int .i64 k] w fun e w' => e = .returned (.bool v) ∧ w = w' := by
  subst hv; exact in_any b g base x k l w h hx hk

theorem cut_out (b g : Nat) (base x k : Int) (l : List Int) (w : World) (h : IsA w b g base l) (hx : Fits x) (hk : Fits k) (hin : ¬ inR l.length (x - base) k) :
    Calls Tryz.prog 122 #[.pointer (some ⟨b, 0, none⟩), .int .i64 x, .int .i64 k] w fun e w' => e = .returned (.tuple #[.slice none 0 0, .int .i64 10]) ∧ w = w' := by
  have H : Hid (IsA w b g base l) := h
  have HI : Hid (decide (inR l.length (x - base) k) = false) := decide_eq_false hin
  clear h hin
  go_enter Tryz.func122, Tryz.ntmps122
  go_wp2_with (go_at_call 184; refine (in_of b g base x k false l _ H.out hx hk HI.out).mono ?_; rintro e w' ⟨rfl, rfl⟩)
  go_ret2
  exact ⟨rfl, rfl⟩
theorem cut_in (b g : Nat) (base x k : Int) (o m : Nat) (l : List Int) (w : World) (h : IsA w b g base l) (ho : x - base = (o : Nat)) (hm : k = (m : Nat)) (hin : o + m ≤ l.length) :
    Calls Tryz.prog 122 #[.pointer (some ⟨b, 0, none⟩), .int .i64 x, .int .i64 k] w fun e w' => ∃ ad cap, e = .returned (.tuple #[.slice ad m cap, .int .i64 0]) ∧ (m = 0 ∨ ad = some ⟨g, o, none⟩) ∧ w = w' := by
  have H : Hid (IsA w b g base l) := h
  have hl := h.len
  have h1 := h.lo
  have h2 := h.hi
  have c0 := h.cell0
  have c1 := h.cell1
  subst hm
  have HI : Hid (decide (inR l.length (x - base) (m : Int)) = true) := decide_eq_true (by unfold inR; omega)
  have hx : Fits x := by unfold Fits; omega
  have hk : Fits (m : Int) := by unfold Fits; omega
  clear h
  by_cases hc : l.length = o
  · obtain rfl : m = 0 := by omega
    go_enter Tryz.func122, Tryz.ntmps122
    go_wp2_with (go_at_call 184; refine (in_of b g base x _ true l _ H.out hx hk HI.out).mono ?_; rintro e w' ⟨rfl, rfl⟩)
    go_ret2
    exact ⟨_, _, rfl, .inl trivial, rfl⟩
  · have n1 : ¬ ((o : Int) + (m : Int) < (o : Int)) := by omega
    have n2 : (o : Int) + (m : Int) ≤ (l.length : Int) := by omega
    go_enter Tryz.func122, Tryz.ntmps122
    go_wp2_with (go_at_call 184; refine (in_of b g base x _ true l _ H.out hx hk HI.out).mono ?_; rintro e w' ⟨rfl, rfl⟩)
    go_ret2
    refine ⟨some ⟨g, o, none⟩, l.length - o, ?_, .inr rfl, rfl⟩
    show Ending.returned (.tuple #[.slice (some ⟨g, o, none⟩) (o + m - o) (l.length - o), .int .i64 0]) = _
    rw [show o + m - o = m from by omega]
end Go.Proofs.YtgdjlopnhecmjaaGreatDoor

/- Layer 15: ArE again -/
namespace Go.Proofs.YtgdjlopnhecmjaaGreatDoor
open Go.RowKit
set_option linter.unusedVariables false
set_option maxRecDepth 4000
/-- Bytes that were handed out: none, or a new block that they fill. -/
def Got (B : Nat) (w : World) (a : Option Addr) (l : List Int) : Prop := l = [] ∨ ∃ g, a = some ⟨g, 0, none⟩ ∧ B ≤ g ∧ RowB w g l
theorem Got.mono {B B' : Nat} {w : World} {a : Option Addr} {l : List Int} (h : Got B w a l) (hb : B' ≤ B) : Got B' w a l := by
  rcases h with rfl | ⟨g, rfl, hB, hr⟩
  · exact .inl rfl
  · exact .inr ⟨g, rfl, by omega, hr⟩
theorem inR_nat {n : Nat} {o k : Int} (h : inR n o k) : ∃ p m : Nat, o = p ∧ k = m ∧ p + m ≤ n := by
  unfold inR at h
  exact ⟨o.toNat, k.toNat, by omega, by omega, by omega⟩

set_option maxHeartbeats 1000000 in
theorem read_any (b g : Nat) (base x k : Int) (l : List Int) (w : World) (h : IsA w b g base l) (hx : Fits x) (hk : Fits k) :
    Calls Tryz.prog 111 #[.pointer (some ⟨b, 0, none⟩), .int .i64 x, .int .i64 k] w fun e w' => ∃ a, e = .returned (.tuple #[.slice a (readR l (x - base) k).length (readR l (x - base) k).length, .int .i64 (errR l.length (x - base) k)]) ∧ Got w.heap.size w' a (readR l (x - base) k) ∧ Below w.heap.size w w' := by
  have H : Hid (IsA w b g base l) := h
  by_cases hin : inR l.length (x - base) k
  · rw [errR_in hin]
    obtain ⟨o, m, ho, hm, hom⟩ := inR_nat hin
    have hl := h.len
    obtain ⟨R, hR⟩ : ∃ R, readR l (x - base) k = R := ⟨_, rfl⟩
    have ER : Hid (readR l (x - base) k = R) := hR
    have hRl : R.length = m := by rw [← hR, readR_len hin, hm]; simp
    have EQ : Hid ((l.drop o).take m = R) := by show _ = _; rw [← hR, readR_in hin, ho, hm]; simp
    have EL : Hid (R.length = m) := hRl
    rw [hR, hRl]
    subst hm
    obtain ⟨wz, hwz⟩ : ∃ wz, w.alloc (.cells (cellsB (List.replicate m 0)).toArray 5) = wz := ⟨_, rfl⟩
    have BZ : Hid (Below w.heap.size w wz) := by show Below _ _ _; rw [← hwz]; exact (Below.refl _ w).alloc (Nat.le_refl _) _
    have RZ : Hid (RowB wz w.heap.size (List.replicate m 0)) := by show wz.heap[w.heap.size]? = _; rw [← hwz]; exact Go.heap_alloc_new w _
    have PZ : Hid (∀ ad, (m = 0 ∨ ad = some ⟨g, o, none⟩) → IsB wz ad R) := fun ad had => by rw [← EQ.out]; exact (h.row.keep BZ.out).part h.all o m ad hom had
    have MK : ∀ w : World, (Instr.makeSlice 39 (.int .i64 (m : Nat)) (.int .i64 (m : Nat))).run Tryz.prog w = .ok (.slice (some ⟨w.heap.size, 0, none⟩) m m) (w.alloc (.cells (cellsB (List.replicate m 0)).toArray 5)) := fun w => make_B w _ (by omega)
    clear h hin hR hRl
    go_enter Tryz.func111, Tryz.ntmps111
    go_wp2_with (first
      | (refine wpList_copyB rfl _ _ rfl w.heap.size 0 _ _ (List.replicate m 0) R _ ad _ _ m rfl rfl EL.out.symm (by simp) RZ.out (PZ.out ad HA.out) (by simp) (.inr rfl) ?_; intro w2 r2 o2; have R2 : Hid (RowB w2 w.heap.size R) := (by have q := r2; simp at q; rw [List.take_of_length_le (by rw [EL.out]; exact Nat.le_refl _)] at q; exact q); have B2 : Hid (Below w.heap.size w w2) := BZ.out.trans (o2.below (Nat.le_refl _)); clear r2 o2)
      | (go_at_call 122; refine (cut_in b g base x _ o m l _ H.out ho rfl hom).mono ?_; rintro e w' ⟨ad, cap, rfl, hA, rfl⟩; have HA : Hid (m = 0 ∨ ad = some ⟨g, o, none⟩) := hA; clear hA))
    go_ret2
    exact ⟨_, rfl, .inr ⟨_, rfl, Nat.le_refl _, R2.out⟩, B2.out⟩
  · rw [errR_out hin, readR_out hin]
    have HI : Hid (¬ inR l.length (x - base) k) := hin
    clear h hin
    go_enter Tryz.func111, Tryz.ntmps111
    go_wp2_with (go_at_call 122; refine (cut_out b g base x k l _ H.out hx hk HI.out).mono ?_; rintro e w' ⟨rfl, rfl⟩)
    go_ret2
    exact ⟨none, rfl, .inl rfl, Below.refl _ _⟩

set_option maxHeartbeats 1000000 in
theorem write_any (b g : Nat) (base x : Int) (l bs : List Int) (a : Option Addr) (n cap : Nat) (w : World) (h : IsA w b g base l) (hx : Fits x) (hn : n = bs.length) (hB : IsB w a bs) (hm : n ≤ maxLen) :
    Calls Tryz.prog 144 #[.pointer (some ⟨b, 0, none⟩), .int .i64 x, .slice a n cap] w fun e w' => e = .returned (.int .i64 (errR l.length (x - base) bs.length)) ∧ IsA w' b g base (writeR l (x - base) bs) ∧ Tg g w w' := by
  have H : Hid (IsA w b g base l) := h
  have HB : Hid (IsB w a bs) := hB
  have hfn : Fits (n : Int) := by unfold Fits; unfold maxLen at hm; omega
  by_cases hin : inR l.length (x - base) bs.length
  · have EW : Hid (writeR l (x - base) bs = overR l (x - base).toNat bs) := if_pos hin
    rw [errR_in hin, EW.out]
    obtain ⟨o, m, ho, hm', hom⟩ := inR_nat hin
    obtain rfl : n = m := by omega
    have HN : Hid (n = bs.length) := hn
    have hl := h.len
    rw [show (x - base).toNat = o from by omega]
    have FIN : Hid (∀ w2, RowB w2 g (l.take o ++ bs.take n ++ l.drop (o + n)) → Only g w w2 → IsA w2 b g base (overR l o bs) ∧ Tg g w w2) := fun w2 r2 o2 => by
      rw [hn, List.take_length] at r2
      exact ⟨h.turned (Tg.ofOnly o2) r2 (h.all.over hB.all o) (overR_len (by omega)), Tg.ofOnly o2⟩
    clear h hin hB hn hm'
    go_enter Tryz.func144, Tryz.ntmps144
    go_wp2_with (first
      | (refine wpList_copyB rfl _ _ rfl g o _ _ l bs _ a _ _ n rfl rfl HN.out (by simp) H.out.row HB.out hom HA.out ?_; intro w2 r2 o2; have F2 : Hid (IsA w2 b g base (overR l o bs) ∧ Tg g w w2) := FIN.out w2 r2 o2; clear r2 o2)
      | (go_at_call 122; refine (cut_in b g base x _ o n l _ H.out ho rfl hom).mono ?_; rintro e w' ⟨ad, cap, rfl, hA, rfl⟩; have HA : Hid (n = 0 ∨ ad = some ⟨g, o, none⟩) := hA; clear hA))
    go_ret
    exact ⟨rfl, F2.out⟩
  · rw [errR_out hin, show writeR l (x - base) bs = l from if_neg hin]
    have HI : Hid (¬ inR l.length (x - base) (n : Nat)) := by show ¬ _; rw [hn]; exact hin
    clear h hin hB hn
    go_enter Tryz.func144, Tryz.ntmps144
    go_wp2_with (first
      | (refine wpList_copy0 rfl _ _ rfl 0 0 n cap none a rfl rfl (by simp) ?_)
      | (go_at_call 122; refine (cut_out b g base x (n : Nat) l _ H.out hx hfn HI.out).mono ?_; rintro e w' ⟨rfl, rfl⟩))
    go_ret
    exact ⟨rfl, H.out, Tg.refl _ _⟩

set_option maxHeartbeats 1000000 in
theorem zero_any (b g : Nat) (base x k : Int) (l : List Int) (w : World) (h : IsA w b g base l) (hx : Fits x) (hk : Fits k) :
    Calls Tryz.prog 72 #[.pointer (some ⟨b, 0, none⟩), .int .i64 x, .int .i64 k] w fun e w' => e = .returned (.int .i64 (errR l.length (x - base) k)) ∧ IsA w' b g base (zeroR l (x - base) k) ∧ Tg g w w' := by
  have H : Hid (IsA w b g base l) := h
  by_cases hin : inR l.length (x - base) k
  · have EW : Hid (zeroR l (x - base) k = overR l (x - base).toNat (List.replicate k.toNat 0)) := if_pos hin
    rw [errR_in hin, EW.out]
    obtain ⟨o, m, ho, rfl, hom⟩ := inR_nat hin
    have hl := h.len
    rw [show (x - base).toNat = o from by omega, Int.toNat_natCast]
    have FIN : Hid (∀ w2, RowB w2 g (overR l o (List.replicate m 0)) → Only g w w2 → IsA w2 b g base (overR l o (List.replicate m 0)) ∧ Tg g w w2) := fun w2 r2 o2 =>
      ⟨h.turned (Tg.ofOnly o2) r2 (h.all.over (AllB.zeros m) o) (overR_len (by simpa using hom)), Tg.ofOnly o2⟩
    clear h hin
    go_enter Tryz.func72, Tryz.ntmps72
    go_wp2_with (first
      | (refine wpList_clearB rfl _ rfl g o m cap ad l rfl H.out.row hom HA.out ?_; intro w2 r2 o2; have F2 : Hid (IsA w2 b g base (overR l o (List.replicate m 0)) ∧ Tg g w w2) := FIN.out w2 r2 o2; clear r2 o2)
      | (go_at_call 122; refine (cut_in b g base x _ o m l _ H.out ho rfl hom).mono ?_; rintro e w' ⟨ad, cap, rfl, hA, rfl⟩; have HA : Hid (m = 0 ∨ ad = some ⟨g, o, none⟩) := hA; clear hA))
    go_ret
    exact ⟨rfl, F2.out⟩
  · rw [errR_out hin, show zeroR l (x - base) k = l from if_neg hin]
    have HI : Hid (¬ inR l.length (x - base) k) := hin
    clear h hin
    go_enter Tryz.func72, Tryz.ntmps72
    go_wp2_with (first
      | (refine wpList_clear0 rfl _ rfl 0 none rfl ?_)
      | (go_at_call 122; refine (cut_out b g base x k l _ H.out hx hk HI.out).mono ?_; rintro e w' ⟨rfl, rfl⟩))
    go_ret
    exact ⟨rfl, H.out, Tg.refl _ _⟩

end Go.Proofs.YtgdjlopnhecmjaaGreatDoor

/- Layer 15: ArF again -/
namespace Go.Proofs.YtgdjlopnhecmjaaGreatDoor
open Go.RowKit
set_option linter.unusedVariables false
set_option maxRecDepth 4000
theorem zword_any (b g : Nat) (base x : Int) (l : List Int) (w : World) (h : IsA w b g base l) (hx : Fits x) :
    Calls Tryz.prog 97 #[.pointer (some ⟨b, 0, none⟩), .int .i64 x] w fun e w' => e = .returned (.tuple #[.int .u64 (wordR l (x - base)), .int .i64 (errR l.length (x - base) 8)]) ∧ w = w' := by
  have H : Hid (IsA w b g base l) := h
  by_cases hin : inR l.length (x - base) 8
  · rw [errR_in hin]
    obtain ⟨o, m, ho, hm, hom⟩ := inR_nat hin
    obtain rfl : m = 8 := by omega
    obtain ⟨V, hV⟩ : ∃ V, wordR l (x - base) = V := ⟨_, rfl⟩
    have HV : Hid (getL (((l.drop o).take 8).take 8) = V) := by
      show _ = _
      rw [← hV, wordR, readR_in hin, ho]
      simp [List.take_take]
    have HP : Hid (∀ ad, (8 = 0 ∨ ad = some ⟨g, o, none⟩) → IsB w ad ((l.drop o).take 8)) := fun ad had => h.row.part h.all o 8 ad hom had
    have HL : Hid (8 = ((l.drop o).take 8).length) := by show _ = _; simp; omega
    rw [hV]
    clear h hin hV hm
    go_enter Tryz.func97, Tryz.ntmps97
    go_wp2_with (first
      | (go_at_call 160; refine (get_of ad _ 8 ((l.drop o).take 8) V _ HL.out HV.out (HP.out ad HA.out) (by rw [← HL.out]; decide)).mono ?_; rintro e w' ⟨rfl, rfl⟩)
      | (go_at_call 122; refine (cut_in b g base x 8 o 8 l _ H.out ho rfl hom).mono ?_; rintro e w' ⟨ad, cap, rfl, hA, rfl⟩; have HA : Hid (8 = 0 ∨ ad = some ⟨g, o, none⟩) := hA; clear hA))
    go_ret2
    exact ⟨rfl, rfl⟩
  · rw [errR_out hin, show wordR l (x - base) = 0 from by rw [wordR, readR_out hin]; rfl]
    have HI : Hid (¬ inR l.length (x - base) 8) := hin
    clear h hin
    go_enter Tryz.func97, Tryz.ntmps97
    go_wp2_with (first
      | (go_at_call 160; refine (get_of none 0 0 [] 0 _ rfl rfl (IsB.nil _ _) (Nat.zero_le _)).mono ?_; rintro e w' ⟨rfl, rfl⟩)
      | (go_at_call 122; refine (cut_out b g base x 8 l _ H.out hx (by unfold Fits; omega) HI.out).mono ?_; rintro e w' ⟨rfl, rfl⟩))
    go_ret2
    exact ⟨rfl, rfl⟩

theorem putw_any (b g : Nat) (base x v : Int) (l : List Int) (w : World) (h : IsA w b g base l) (hx : Fits x) (h0 : 0 ≤ v) (h1 : v ≤ 18446744073709551615) :
    Calls Tryz.prog 109 #[.pointer (some ⟨b, 0, none⟩), .int .i64 x, .int .u64 v] w fun e w' => e = .returned (.int .i64 (errR l.length (x - base) 8)) ∧ IsA w' b g base (writeR l (x - base) (putL 8 v)) ∧ Tg g w w' := by
  have H : Hid (IsA w b g base l) := h
  clear h
  obtain ⟨P, hP⟩ : ∃ P, putL 8 v = P := ⟨_, rfl⟩
  have PA : Hid (AllB P) := by show AllB _; rw [← hP]; exact putL_byte 8 v
  have PL : Hid (8 = P.length) := by show _ = _; rw [← hP, putL_length]
  have EP : Hid (putL 8 v = P) := hP
  obtain ⟨E, hE⟩ : ∃ E, errR l.length (x - base) 8 = E := ⟨_, rfl⟩
  have EE : Hid (errR l.length (x - base) P.length = E) := by show _ = _; rw [← PL.out]; exact hE
  rw [hP, hE]
  clear hP hE
  go_enter Tryz.func109, Tryz.ntmps109
  go_wp2_with fail
  refine (put_word v h0 h1 _).mono ?_
  rintro e w1 ⟨rfl, r1, b1⟩
  rw [EP.out] at r1
  have B1 : Hid (Below w.heap.size w w1) := b1
  have R1 : Hid (RowB w1 w.heap.size P) := r1
  clear r1 b1
  go_wp2_with fail
  refine (write_any b g base x l P _ 8 8 _ (H.out.keep B1.out) hx PL.out (R1.out.isB PA.out) (by decide)).mono ?_
  rw [EE.out]
  rintro e w2 ⟨rfl, i2, t2⟩
  have I2 : Hid (IsA w2 b g base (writeR l (x - base) P)) := i2
  have T2 : Hid (Tg g w w2) := (Tg.ofBelow B1.out).trans t2
  clear i2 t2
  go_wp2
  go_ret
  exact ⟨rfl, I2.out, T2.out⟩

theorem bytes_any (b g : Nat) (base : Int) (l : List Int) (w : World) (h : IsA w b g base l) :
    Calls Tryz.prog 55 #[.pointer (some ⟨b, 0, none⟩)] w fun e w' => ∃ a, e = .returned (.slice a l.length l.length) ∧ Got w.heap.size w' a l ∧ Below w.heap.size w w' := by
  have H : Hid (IsA w b g base l) := h
  have hl := h.len
  have h1 := h.lo
  have h2 := h.hi
  have hx : Fits base := by unfold Fits; omega
  have hk : Fits (l.length : Nat) := by unfold Fits; omega
  have ER : Hid (readR l (base - base) (l.length : Nat) = l) := by
    show _ = _
    rw [readR_in (by unfold inR; omega), Int.sub_self]
    simp
  clear h
  go_enter Tryz.func55, Tryz.ntmps55
  go_wp2_with (first
    | (go_at_call 111; refine (read_any b g base base _ l _ H.out hx hk).mono ?_; rw [ER.out]; rintro e w1 ⟨a, rfl, g1, b1⟩; have G1 : Hid (Got w.heap.size w1 a l) := g1; have B1 : Hid (Below w.heap.size w w1) := b1; clear g1 b1)
    | (go_at_call 112; refine (zsize_any b g base l _ H.out).mono ?_; rintro e w' ⟨rfl, rfl⟩)
    | (go_at_call 50; refine (base_any b g base l _ H.out).mono ?_; rintro e w' ⟨rfl, rfl⟩))
  go_ret
  exact ⟨a, rfl, G1.out, B1.out⟩

instance (x : Int) : Decidable (goodR x) := by unfold goodR; infer_instance
set_option maxHeartbeats 1000000 in
theorem znew_any (x : Int) (p : Nat) (w : World) (h1 : 1 ≤ p) (h2 : p ≤ 4096) (hg : goodR x) :
    Calls Tryz.prog 143 #[.int .i64 x, .int .i64 (p : Nat)] w fun e w' => e = .returned (.tuple #[.pointer (some ⟨w.heap.size + 1, 0, none⟩), .int .i64 0]) ∧ IsA w' (w.heap.size + 1) w.heap.size x (List.replicate (p * 256) 0) ∧ Below w.heap.size w w' ∧ w'.heap.size = w.heap.size + 2 := by
  have HG : Hid (decide (goodR x) = true) := decide_eq_true hg
  have HX : Hid (256 ≤ x ∧ x ≤ 1099511627776) := ⟨hg.1, hg.2.1⟩
  have n1 : ¬ ((p : Int) < 1) := by omega
  have n2 : ¬ (4096 < (p : Int)) := by omega
  have MK : ∀ w : World, (Instr.makeSlice 39 (.int .i64 ((p : Nat) * 256)) (.int .i64 ((p : Nat) * 256))).run Tryz.prog w = .ok (.slice (some ⟨w.heap.size, 0, none⟩) (p * 256) (p * 256)) (w.alloc (.cells (cellsB (List.replicate (p * 256) 0)).toArray 5)) := fun w => by
    have := make_B w (p * 256) (by omega)
    rw [Int.natCast_mul] at this
    exact this
  have FIN : Hid (IsA ((w.alloc (.cells (cellsB (List.replicate (p * 256) 0)).toArray 5)).alloc (.cells #[.int .i64 x, .slice (some ⟨w.heap.size, 0, none⟩) (p * 256) (p * 256)] 179)) (w.heap.size + 1) w.heap.size x (List.replicate (p * 256) 0)) := by
    have hr : RowB (w.alloc (.cells (cellsB (List.replicate (p * 256) 0)).toArray 5)) w.heap.size (List.replicate (p * 256) 0) := Go.heap_alloc_new w _
    refine ⟨?_, hr.keep ((Below.refl _ _).alloc (Nat.le_refl _) _), AllB.zeros _, by omega, HX.out.1, HX.out.2, by simp; omega⟩
    have := Go.heap_alloc_new (w.alloc (.cells (cellsB (List.replicate (p * 256) 0)).toArray 5)) (.cells #[.int .i64 x, .slice (some ⟨w.heap.size, 0, none⟩) (p * 256) (p * 256)] 179)
    rw [World.size_alloc] at this
    rw [this, List.length_replicate]
  clear hg
  go_enter Tryz.func143, Tryz.ntmps143
  go_wp2_with (go_at_call 80; refine (good_of x true _ HG.out).mono ?_; rintro e w' ⟨rfl, rfl⟩)
  go_ret2
  exact ⟨by simp, FIN.out, ((Below.refl _ w).alloc (Nat.le_refl _) _).alloc (by simp) _, by simp⟩
end Go.Proofs.YtgdjlopnhecmjaaGreatDoor

/- Layer 15: ArC again -/
namespace Go.Proofs.YtgdjlopnhecmjaaGreatDoor
open Go.RowKit
set_option linter.unusedVariables false
set_option maxRecDepth 4000
end Go.Proofs.YtgdjlopnhecmjaaGreatDoor

/- Layer 15: NumP again -/
namespace Go.Proofs.YtgdjlopnhecmjaaGreatDoor
open Go.RowKit
set_option linter.unusedVariables false
set_option maxRecDepth 4000

end Go.Proofs.YtgdjlopnhecmjaaGreatDoor

/- Layer 15: NumP2 again -/
namespace Go.Proofs.YtgdjlopnhecmjaaGreatDoor
open Go.RowKit
set_option linter.unusedVariables false
set_option maxRecDepth 4000
end Go.Proofs.YtgdjlopnhecmjaaGreatDoor

/- Layer 15: NumP3 again -/
namespace Go.Proofs.YtgdjlopnhecmjaaGreatDoor
open Go.RowKit
set_option linter.unusedVariables false
set_option maxRecDepth 4000
end Go.Proofs.YtgdjlopnhecmjaaGreatDoor

/- Layer 15: KdP again -/
namespace Go.Proofs.YtgdjlopnhecmjaaGreatDoor
open Go.RowKit
set_option linter.unusedVariables false
set_option maxRecDepth 4000
def rightK (s : Int) (ps : List Int) : Prop := 1 ≤ s ∧ s ≤ 4096 ∧ ps.length ≤ 16 ∧ placedB s 0 ps = true
instance (s : Int) (ps : List Int) : Decidable (rightK s ps) := by unfold rightK; infer_instance
theorem check_zero {s : Int} {ps : List Int} : checkK s ps = 0 ↔ rightK s ps := by
  unfold checkK rightK
  split
  · constructor <;> intro h <;> omega
  · split
    · constructor <;> intro h <;> omega
    · split
      · rename_i h; exact ⟨fun _ => ⟨by omega, by omega, by omega, h⟩, fun _ => rfl⟩
      · rename_i h; exact ⟨fun h => by omega, fun h' => absurd h'.2.2.2 h⟩
/-- These bytes lie in the object, and in no pointer field. -/
def plainK (s : Int) (ps : List Int) (x n : Int) : Bool := decide (rightK s ps ∧ 0 ≤ x ∧ 0 ≤ n ∧ n ≤ s - x ∧ ∀ p ∈ ps, ¬ (p < x + n ∧ x < p + 8 ∧ 0 < n))
theorem iplaced_all (s : Int) : ∀ (l : List Int) (f : Int), 0 ≤ f → placedB s f l = true → ∀ p ∈ l, f ≤ p ∧ p ≤ s - 8 ∧ p % 8 = 0
  | [], f, _, _, p, hp => by cases hp
  | q :: l, f, hf, h, p, hp => by
    simp only [placedB, Bool.and_eq_true, decide_eq_true_eq] at h
    rcases List.mem_cons.1 hp with rfl | hp
    · exact h.1
    · have := iplaced_all s l (q + 8) (by omega) h.2 p hp
      omega

end Go.Proofs.YtgdjlopnhecmjaaGreatDoor

/- Layer 15: KdA again -/
namespace Go.Proofs.YtgdjlopnhecmjaaGreatDoor
open Go.RowKit
set_option linter.unusedVariables false
set_option maxRecDepth 4000
end Go.Proofs.YtgdjlopnhecmjaaGreatDoor

/- Layer 15: KdE again -/
namespace Go.Proofs.YtgdjlopnhecmjaaGreatDoor
open Go.RowKit
set_option linter.unusedVariables false
set_option maxRecDepth 4000
theorem box_cells (w : World) (s : Int) (a : Option Addr) (n c : Nat) : (w.alloc (.cells #[.int .i64 s, .slice a n c] 103)).cell? ⟨w.heap.size, 0, none⟩ = some (.int .i64 s) ∧ (w.alloc (.cells #[.int .i64 s, .slice a n c] 103)).cell? ⟨w.heap.size, 1, none⟩ = some (.slice a n c) := by
  have h := Go.heap_alloc_new w (.cells #[.int .i64 s, .slice a n c] 103)
  exact ⟨cell_of_row _ _ 0 _ _ _ h, cell_of_row _ _ 1 _ _ _ h⟩

set_option maxHeartbeats 2000000 in
theorem icheck_any (s : Int) (a : Option Addr) (c : Nat) (ps : List Int) (w : World) (hI : IsI w a ps) (hm : ps.length ≤ maxLen) :
    Calls Tryz.prog 168 #[.agg #[.int .i64 s, .slice a ps.length c]] w fun e w' => e = .returned (.int .i64 (checkK s ps)) ∧ Below w.heap.size w w' := by
  have HB : Hid (Below w.heap.size w (w.alloc (.cells #[.int .i64 s, .slice a ps.length c] 103))) := box_below w s a _ c
  have I1 : Hid (IsI (w.alloc (.cells #[.int .i64 s, .slice a ps.length c] 103)) a ps) := hI.keep HB.out
  clear hI
  unfold maxLen at hm
  by_cases h1 : s < 1 ∨ 4096 < s
  · have E : Hid (checkK s ps = 2) := check_two h1
    go_enter Tryz.func168, Tryz.ntmps168
    go_wp2
    all_goals (go_ret; exact ⟨ret_int E.out.symm, HB.out⟩)
  · by_cases h2 : 16 < ps.length
    · have E : Hid (checkK s ps = 6) := check_six h1 h2
      have g1 : ¬ s < 1 := by omega
      have g2 : ¬ 4096 < s := by omega
      clear h1
      go_enter Tryz.func168, Tryz.ntmps168
      go_wp2
      all_goals (go_ret; exact ⟨ret_int E.out.symm, HB.out⟩)
    · have g1 : 1 ≤ s := by omega
      have g2 : s ≤ 4096 := by omega
      have g3 : ps.length ≤ 16 := by omega
      rcases hp : placedB s 0 ps with _ | _
      · have E : Hid (checkK s ps = 11) := check_el h1 h2 hp
        have EP : Hid (placedB s 0 ps = false) := hp
        clear h1 h2 hp
        go_enter Tryz.func168, Tryz.ntmps168
        go_wp2_with (go_at_call 214; refine (placed_any s a c ps _ I1.out g1 g2 g3).mono ?_; rw [EP.out]; rintro e w1 ⟨rfl, b1⟩)
        go_ret
        exact ⟨ret_int E.out.symm, HB.out.trans (b1.mono HB.out.size)⟩
      · have E : Hid (checkK s ps = 0) := check_ok h1 h2 hp
        have EP : Hid (placedB s 0 ps = true) := hp
        clear h1 h2 hp
        go_enter Tryz.func168, Tryz.ntmps168
        go_wp2_with (go_at_call 214; refine (placed_any s a c ps _ I1.out g1 g2 g3).mono ?_; rw [EP.out]; rintro e w1 ⟨rfl, b1⟩)
        go_ret
        exact ⟨ret_int E.out.symm, HB.out.trans (b1.mono HB.out.size)⟩

/-- Check, its length and what it answers told apart. -/
theorem icheck_is (s : Int) (a : Option Addr) (c n : Nat) (ps : List Int) (r : Int) (w : World) (hn : n = ps.length) (hr : checkK s ps = r) (hI : IsI w a ps) (hm : ps.length ≤ maxLen) :
    Calls Tryz.prog 168 #[.agg #[.int .i64 s, .slice a n c]] w fun e w' => e = .returned (.int .i64 r) ∧ Below w.heap.size w w' := by
  subst hn hr; exact icheck_any s a c ps w hI hm

theorem right_any (s : Int) (a : Option Addr) (c : Nat) (ps : List Int) (w : World) (hI : IsI w a ps) (hm : ps.length ≤ maxLen) :
    Calls Tryz.prog 211 #[.agg #[.int .i64 s, .slice a ps.length c]] w fun e w' => e = .returned (.bool (decide (checkK s ps = 0))) ∧ Below w.heap.size w w' := by
  have HB : Hid (Below w.heap.size w (w.alloc (.cells #[.int .i64 s, .slice a ps.length c] 103))) := box_below w s a _ c
  have I1 : Hid (IsI (w.alloc (.cells #[.int .i64 s, .slice a ps.length c] 103)) a ps) := hI.keep HB.out
  clear hI
  obtain ⟨r, hr⟩ : ∃ r, checkK s ps = r := ⟨_, rfl⟩
  have ER : Hid (checkK s ps = r) := hr
  rw [hr]
  clear hr
  by_cases h0 : r = 0
  · subst h0
    go_enter Tryz.func211, Tryz.ntmps211
    go_wp2_with (go_at_call 168; refine (icheck_is s a c _ ps 0 _ rfl ER.out I1.out hm).mono ?_; rintro e w1 ⟨rfl, b1⟩)
    go_ret
    exact ⟨rfl, HB.out.trans (b1.mono HB.out.size)⟩
  · have hq : (r == 0) = false := by rw [beq_eq_false_iff_ne]; exact h0
    have D : Hid (decide (r = 0) = false) := decide_eq_false h0
    rw [D.out]
    go_enter Tryz.func211, Tryz.ntmps211
    go_wp2_with (go_at_call 168; refine (icheck_is s a c _ ps r _ rfl ER.out I1.out hm).mono ?_; rintro e w1 ⟨rfl, b1⟩)
    go_ret
    exact ⟨by simp, HB.out.trans (b1.mono HB.out.size)⟩
theorem right_is (s : Int) (a : Option Addr) (c n : Nat) (ps : List Int) (r : Bool) (w : World) (hn : n = ps.length) (hr : decide (checkK s ps = 0) = r) (hI : IsI w a ps) (hm : ps.length ≤ maxLen) :
    Calls Tryz.prog 211 #[.agg #[.int .i64 s, .slice a n c]] w fun e w' => e = .returned (.bool r) ∧ Below w.heap.size w w' := by
  subst hn hr; exact right_any s a c ps w hI hm
end Go.Proofs.YtgdjlopnhecmjaaGreatDoor

/- Layer 15: KdI again -/
namespace Go.Proofs.YtgdjlopnhecmjaaGreatDoor
open Go.RowKit
set_option linter.unusedVariables false
set_option maxRecDepth 4000

end Go.Proofs.YtgdjlopnhecmjaaGreatDoor
