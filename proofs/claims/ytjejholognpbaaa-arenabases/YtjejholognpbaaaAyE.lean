/- What do and want answer, of any call. -/
import Derived.Test.YtjejholognpbaaaAyDAf
import Derived.Test.YtjejholognpbaaaAyDAn
import Derived.Test.YtjejholognpbaaaAyDBf
import Derived.Test.YtjejholognpbaaaAyDBn
import Derived.Test.YtjejholognpbaaaAyDCf
import Derived.Test.YtjejholognpbaaaAyDCn
import Derived.Test.YtjejholognpbaaaAyWAf
import Derived.Test.YtjejholognpbaaaAyWAn
import Derived.Test.YtjejholognpbaaaAyWBf
import Derived.Test.YtjejholognpbaaaAyWBn
import Derived.Test.YtjejholognpbaaaAyWCf
import Derived.Test.YtjejholognpbaaaAyWCn
namespace Go.Proofs.Ytjejholognpbaaa
open Go.RowKit
set_option linter.unusedVariables false

/-- An address, told from the base on. -/
def offO (base x : Int) (nr : Bool) : Int := if nr = true then x.tmod 2000 else x - base
theorem offO_far (base x : Int) : offO base x false = x - base := rfl
theorem offO_near (base x : Int) : offO base x true = x.tmod 2000 := rfl

theorem ansX_1 (l bs : List Int) (o t k pg : Int) : ansX l 1 o t k pg bs = (errR l.length o k, 0, 0) := by simp [ansX]
theorem ansX_2 (l bs : List Int) (o t k pg : Int) : ansX l 2 o t k pg bs = (errR l.length o bs.length, 0, 0) := by simp [ansX]
theorem ansX_3 (l bs : List Int) (o t k pg : Int) : ansX l 3 o t k pg bs = (errR l.length o k, 0, 0) := by simp [ansX]
theorem ansX_4 (l bs : List Int) (o t k pg : Int) : ansX l 4 o t k pg bs = (moveE l.length o t k, 0, 0) := by simp [ansX]
theorem ansX_5 (l bs : List Int) (o t k pg : Int) : ansX l 5 o t k pg bs = (errR l.length o 8, 0, 0) := by simp [ansX]
theorem ansX_6 (l bs : List Int) (o t k pg : Int) : ansX l 6 o t k pg bs = (errR l.length o 8, 0, 0) := by simp [ansX]
theorem ansX_7in (l bs : List Int) (o t k pg : Int) (h : inR l.length o 1) : ansX l 7 o t k pg bs = (1, o / 256, o % 256) := by simp [ansX, h]
theorem ansX_7out (l bs : List Int) (o t k pg : Int) (h : ¬ inR l.length o 1) : ansX l 7 o t k pg bs = (0, 0, 0) := by simp [ansX, h]
theorem ansX_8in (l bs : List Int) (o t k pg : Int) (h : hasP l.length pg k) : ansX l 8 o t k pg bs = (1, 256 * pg + k, 0) := by simp [ansX, h]
theorem ansX_8out (l bs : List Int) (o t k pg : Int) (h : ¬ hasP l.length pg k) : ansX l 8 o t k pg bs = (0, 0, 0) := by simp [ansX, h]
theorem ansX_9 (l bs : List Int) (kd o t k pg : Int) (k1 : kd ≠ 1) (k2 : kd ≠ 2) (k3 : kd ≠ 3) (k4 : kd ≠ 4) (k5 : kd ≠ 5) (k6 : kd ≠ 6) (k7 : kd ≠ 7) (k8 : kd ≠ 8) : ansX l kd o t k pg bs = (0, 0, 0) := by simp [ansX, k1, k2, k3, k4, k5, k6, k7, k8]
theorem ansW_1 (l : List Int) (o : Int) : ansW l 1 o = 0 := by simp [ansW]
theorem ansB_1 (l : List Int) (o k : Int) : ansB l 1 o k = readR l o k := by simp [ansB]
theorem ansL_1 (l bs : List Int) (o t k v : Int) : ansL l 1 o t k v bs = l := by simp [ansL]
theorem ansW_2 (l : List Int) (o : Int) : ansW l 2 o = 0 := by simp [ansW]
theorem ansB_2 (l : List Int) (o k : Int) : ansB l 2 o k = [] := by simp [ansB]
theorem ansL_2 (l bs : List Int) (o t k v : Int) : ansL l 2 o t k v bs = writeR l o bs := by simp [ansL]
theorem ansW_3 (l : List Int) (o : Int) : ansW l 3 o = 0 := by simp [ansW]
theorem ansB_3 (l : List Int) (o k : Int) : ansB l 3 o k = [] := by simp [ansB]
theorem ansL_3 (l bs : List Int) (o t k v : Int) : ansL l 3 o t k v bs = zeroR l o k := by simp [ansL]
theorem ansW_4 (l : List Int) (o : Int) : ansW l 4 o = 0 := by simp [ansW]
theorem ansB_4 (l : List Int) (o k : Int) : ansB l 4 o k = [] := by simp [ansB]
theorem ansL_4 (l bs : List Int) (o t k v : Int) : ansL l 4 o t k v bs = moveR l o t k := by simp [ansL]
theorem ansW_5 (l : List Int) (o : Int) : ansW l 5 o = wordR l o := by simp [ansW]
theorem ansB_5 (l : List Int) (o k : Int) : ansB l 5 o k = [] := by simp [ansB]
theorem ansL_5 (l bs : List Int) (o t k v : Int) : ansL l 5 o t k v bs = l := by simp [ansL]
theorem ansW_6 (l : List Int) (o : Int) : ansW l 6 o = 0 := by simp [ansW]
theorem ansB_6 (l : List Int) (o k : Int) : ansB l 6 o k = [] := by simp [ansB]
theorem ansL_6 (l bs : List Int) (o t k v : Int) : ansL l 6 o t k v bs = writeR l o (putL 8 v) := by simp [ansL]
theorem ansW_7 (l : List Int) (o : Int) : ansW l 7 o = 0 := by simp [ansW]
theorem ansB_7 (l : List Int) (o k : Int) : ansB l 7 o k = [] := by simp [ansB]
theorem ansL_7 (l bs : List Int) (o t k v : Int) : ansL l 7 o t k v bs = l := by simp [ansL]
theorem ansW_8 (l : List Int) (o : Int) : ansW l 8 o = 0 := by simp [ansW]
theorem ansB_8 (l : List Int) (o k : Int) : ansB l 8 o k = [] := by simp [ansB]
theorem ansL_8 (l bs : List Int) (o t k v : Int) : ansL l 8 o t k v bs = l := by simp [ansL]
theorem ansW_9 (l : List Int) (kd o : Int) (k5 : kd ≠ 5) : ansW l kd o = 0 := by simp [ansW, k5]
theorem ansB_9 (l : List Int) (kd o k : Int) (k1 : kd ≠ 1) : ansB l kd o k = [] := by simp [ansB, k1]
theorem ansL_9 (l bs : List Int) (kd o t k v : Int) (k2 : kd ≠ 2) (k3 : kd ≠ 3) (k4 : kd ≠ 4) (k6 : kd ≠ 6) : ansL l kd o t k v bs = l := by simp [ansL, k2, k3, k4, k6]

theorem do_any (b g c : Nat) (base kd x y k v : Int) (nr : Bool) (l bs : List Int) (a : Option Addr) (w : World) (h : IsA w b g base l) (hC : CallOk w x y k v a bs) :
    Calls Try.prog 13 #[.pointer (some ⟨b, 0, none⟩), .int .i64 base, .agg #[.int .i64 kd, .int .i64 x, .int .i64 y, .int .i64 k, .int .u64 v, .slice a bs.length c, .bool nr]] w
      (DoPost w b g base (ansX l kd (offO base x nr) (offO base y nr) k x bs).1 (ansX l kd (offO base x nr) (offO base y nr) k x bs).2.1 (ansX l kd (offO base x nr) (offO base y nr) k x bs).2.2 (ansW l kd (offO base x nr)) (ansB l kd (offO base x nr) k) (ansL l kd (offO base x nr) (offO base y nr) k v bs)) := by
  by_cases k1 : kd = 1
  · subst k1
    rw [ansW_1, ansB_1, ansL_1]
    rw [ansX_1]
    cases nr
    · exact do1_far b g c base x y k v l bs a w h hC
    · exact do1_near b g c base x y k v l bs a w h hC
  by_cases k2 : kd = 2
  · subst k2
    rw [ansW_2, ansB_2, ansL_2]
    rw [ansX_2]
    cases nr
    · exact do2_far b g c base x y k v l bs a w h hC
    · exact do2_near b g c base x y k v l bs a w h hC
  by_cases k3 : kd = 3
  · subst k3
    rw [ansW_3, ansB_3, ansL_3]
    rw [ansX_3]
    cases nr
    · exact do3_far b g c base x y k v l bs a w h hC
    · exact do3_near b g c base x y k v l bs a w h hC
  by_cases k4 : kd = 4
  · subst k4
    rw [ansW_4, ansB_4, ansL_4]
    rw [ansX_4]
    cases nr
    · exact do4_far b g c base x y k v l bs a w h hC
    · exact do4_near b g c base x y k v l bs a w h hC
  by_cases k5 : kd = 5
  · subst k5
    rw [ansW_5, ansB_5, ansL_5]
    rw [ansX_5]
    cases nr
    · exact do5_far b g c base x y k v l bs a w h hC
    · exact do5_near b g c base x y k v l bs a w h hC
  by_cases k6 : kd = 6
  · subst k6
    rw [ansW_6, ansB_6, ansL_6]
    rw [ansX_6]
    cases nr
    · exact do6_far b g c base x y k v l bs a w h hC
    · exact do6_near b g c base x y k v l bs a w h hC
  by_cases k7 : kd = 7
  · subst k7
    rw [ansW_7, ansB_7, ansL_7]
    by_cases hin : inR l.length (offO base x nr) 1
    · rw [ansX_7in _ _ _ _ _ _ hin]
      cases nr
      · exact do7in_far b g c base x y k v l bs a w h hC hin
      · exact do7in_near b g c base x y k v l bs a w h hC hin
    · rw [ansX_7out _ _ _ _ _ _ hin]
      cases nr
      · exact do7out_far b g c base x y k v l bs a w h hC hin
      · exact do7out_near b g c base x y k v l bs a w h hC hin
  by_cases k8 : kd = 8
  · subst k8
    rw [ansW_8, ansB_8, ansL_8]
    by_cases hin : hasP l.length x k
    · rw [ansX_8in _ _ _ _ _ _ hin]
      cases nr
      · exact do8in_far b g c base x y k v l bs a w h hC hin
      · exact do8in_near b g c base x y k v l bs a w h hC hin
    · rw [ansX_8out _ _ _ _ _ _ hin]
      cases nr
      · exact do8out_far b g c base x y k v l bs a w h hC hin
      · exact do8out_near b g c base x y k v l bs a w h hC hin
  rw [ansX_9 _ _ _ _ _ _ _ k1 k2 k3 k4 k5 k6 k7 k8, ansW_9 _ _ _ k5, ansB_9 _ _ _ _ k1, ansL_9 _ _ _ _ _ _ _ k2 k3 k4 k6]
  cases nr
  · exact do9_far b g c base x y k v kd l bs a w h hC k1 k2 k3 k4 k5 k6 k7 k8
  · exact do9_near b g c base x y k v kd l bs a w h hC k1 k2 k3 k4 k5 k6 k7 k8

theorem want_any (b g c : Nat) (base kd x y k v : Int) (nr : Bool) (l bs : List Int) (a : Option Addr) (w : World) (h : IsM w b g base l) (hC : CallOk w x y k v a bs) (hne : bs = [] ∨ ∀ ad, a = some ad → ad.block ≠ g) :
    Calls Try.prog 14 #[.pointer (some ⟨b, 0, none⟩), .agg #[.int .i64 kd, .int .i64 x, .int .i64 y, .int .i64 k, .int .u64 v, .slice a bs.length c, .bool nr]] w
      (WantPost w b g base (ansX l kd (offO base x nr) (offO base y nr) k x bs).1 (ansX l kd (offO base x nr) (offO base y nr) k x bs).2.1 (ansX l kd (offO base x nr) (offO base y nr) k x bs).2.2 (ansW l kd (offO base x nr)) (ansB l kd (offO base x nr) k) (ansL l kd (offO base x nr) (offO base y nr) k v bs)) := by
  by_cases k1 : kd = 1
  · subst k1
    rw [ansW_1, ansB_1, ansL_1]
    rw [ansX_1]
    cases nr
    · exact want1_far b g c base x y k v l bs a w h hC hne
    · exact want1_near b g c base x y k v l bs a w h hC hne
  by_cases k2 : kd = 2
  · subst k2
    rw [ansW_2, ansB_2, ansL_2]
    rw [ansX_2]
    cases nr
    · exact want2_far b g c base x y k v l bs a w h hC hne
    · exact want2_near b g c base x y k v l bs a w h hC hne
  by_cases k3 : kd = 3
  · subst k3
    rw [ansW_3, ansB_3, ansL_3]
    rw [ansX_3]
    cases nr
    · exact want3_far b g c base x y k v l bs a w h hC hne
    · exact want3_near b g c base x y k v l bs a w h hC hne
  by_cases k4 : kd = 4
  · subst k4
    rw [ansW_4, ansB_4, ansL_4]
    rw [ansX_4]
    cases nr
    · exact want4_far b g c base x y k v l bs a w h hC hne
    · exact want4_near b g c base x y k v l bs a w h hC hne
  by_cases k5 : kd = 5
  · subst k5
    rw [ansW_5, ansB_5, ansL_5]
    rw [ansX_5]
    cases nr
    · exact want5_far b g c base x y k v l bs a w h hC hne
    · exact want5_near b g c base x y k v l bs a w h hC hne
  by_cases k6 : kd = 6
  · subst k6
    rw [ansW_6, ansB_6, ansL_6]
    rw [ansX_6]
    cases nr
    · exact want6_far b g c base x y k v l bs a w h hC hne
    · exact want6_near b g c base x y k v l bs a w h hC hne
  by_cases k7 : kd = 7
  · subst k7
    rw [ansW_7, ansB_7, ansL_7]
    by_cases hin : inR l.length (offO base x nr) 1
    · rw [ansX_7in _ _ _ _ _ _ hin]
      cases nr
      · exact want7in_far b g c base x y k v l bs a w h hC hne hin
      · exact want7in_near b g c base x y k v l bs a w h hC hne hin
    · rw [ansX_7out _ _ _ _ _ _ hin]
      cases nr
      · exact want7out_far b g c base x y k v l bs a w h hC hne hin
      · exact want7out_near b g c base x y k v l bs a w h hC hne hin
  by_cases k8 : kd = 8
  · subst k8
    rw [ansW_8, ansB_8, ansL_8]
    by_cases hin : hasP l.length x k
    · rw [ansX_8in _ _ _ _ _ _ hin]
      cases nr
      · exact want8in_far b g c base x y k v l bs a w h hC hne hin
      · exact want8in_near b g c base x y k v l bs a w h hC hne hin
    · rw [ansX_8out _ _ _ _ _ _ hin]
      cases nr
      · exact want8out_far b g c base x y k v l bs a w h hC hne hin
      · exact want8out_near b g c base x y k v l bs a w h hC hne hin
  rw [ansX_9 _ _ _ _ _ _ _ k1 k2 k3 k4 k5 k6 k7 k8, ansW_9 _ _ _ k5, ansB_9 _ _ _ _ k1, ansL_9 _ _ _ _ _ _ _ k2 k3 k4 k6]
  cases nr
  · exact want9_far b g c base x y k v kd l bs a w h hC hne k1 k2 k3 k4 k5 k6 k7 k8
  · exact want9_near b g c base x y k v kd l bs a w h hC hne k1 k2 k3 k4 k5 k6 k7 k8

end Go.Proofs.Ytjejholognpbaaa
