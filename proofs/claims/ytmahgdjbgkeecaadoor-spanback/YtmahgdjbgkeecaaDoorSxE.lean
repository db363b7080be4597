/- The walk of SpanBack: the data of a span are that span again, and nothing is shared with them. -/
import Derived.Test.YtmahgdjbgkeecaaDoorSpW
import Derived.Test.YtmahgdjbgkeecaaDoorSpL
namespace Go.Proofs.YtmahgdjbgkeecaaDoor
open Go.RowKit
set_option linter.unusedVariables false

set_option maxRecDepth 20000 in
set_option maxHeartbeats 4000000 in
theorem back_fail (p c s : Int) (l : List Int) (a : Option Addr) (k : Nat) (a1 : Option Addr) (cap1 len1 : Nat) (w : World) (hT : Tabs w) (hp : -9223372036854775808 ≤ p ∧ p ≤ 9223372036854775807) (hI : IsI w a l) (hnil : a = none → l = [] ∧ k = 0) (hm : l.length ≤ maxLen) (hlen : l.length ≤ 17592186044416) (x : Int) (h0 : x ≠ 0)
    (hf : (newE p c s = x ∧ x ≠ 0) ∨ (newE p c s = 0 ∧ okL (slN c) (-1) l = false ∧ x = 4)) :
    Calls Tryd.prog 5 #[.agg #[.int .i64 p, .int .i64 c, .int .i64 s, .slice a l.length k], .slice a1 len1 cap1] w fun e w' => e = .returned (.bool true) ∧ Below w.heap.size w w' := by
  obtain ⟨D, hD, zD, rD, bD⟩ := dbox w p c s a l.length k
  have HD : Hid (w.alloc (.cells #[.int .i64 p, .int .i64 c, .int .i64 s, .slice a l.length k] 24) = D) := hD
  have BD : Hid (Below w.heap.size w D) := bD
  have TD : Hid (Tabs D) := hT.keep bD
  have ID : Hid (IsI D a l) := hI.keep bD
  have RD : Hid (D.heap[w.heap.size]? = some (.cells (dcells p c s a l.length k) 24 (0, 0))) := rD
  have HF : Hid ((newE p c s = x ∧ x ≠ 0) ∨ (newE p c s = 0 ∧ okL (slN c) (-1) l = false ∧ x = 4)) := hf
  have HN : Hid (a = none → l = [] ∧ k = 0) := hnil
  have hne : (x == 0) = false := beq_eq_false_iff_ne.2 h0
  have hne' : (x != 0) = true := by rw [bne, hne]; rfl
  have HT : Hid (Tabs w) := hT
  clear hD zD rD bD hT hI hf hnil
  go_enter Tryd.func5, Tryd.ntmps5
  go_upto_region 1 with (fail)
  rw [HD.out]
  go_wp2_with fail
  refine (alive_any D TD.out).mono ?_
  rintro e w1 ⟨rfl, b1⟩
  have B1 : Hid (Below w.heap.size w w1) := BD.out.trans (b1.mono BD.out.size)
  have T1 : Hid (Tabs w1) := TD.out.keep b1
  have I1 : Hid (IsI w1 a l) := ID.out.keep b1
  have R1 : Hid (w1.heap[w.heap.size]? = some (.cells (dcells p c s a l.length k) 24 (0, 0))) := bblock b1 RD.out
  obtain ⟨a2, c2, w2, hrun2, o2, n2, b2⟩ := appi_any w1 a l k I1.out HN.out hlen
  have O2 : Hid (OwnsI w2 w1.heap.size a2 l c2) := o2
  have B2 : Hid (Below w.heap.size w w2) := B1.out.trans (b2.mono B1.out.size)
  have I2 : Hid (IsI w2 a l) := I1.out.keep b2
  have R2 : Hid (w2.heap[w.heap.size]? = some (.cells (dcells p c s a l.length k) 24 (0, 0))) := bblock b2 R1.out
  have T2 : Hid (Tabs w2) := T1.out.keep b2
  have q13 : (w1.alloc (.cells #[] 3)).cell? ⟨w.heap.size, 3, none⟩ = some (.slice a l.length k) := bcell ((Below.refl _ w1).alloc (Nat.le_refl _) _) (dcell3 R1.out)
  clear b1 o2 b2 n2
  go_upto_region 4 with (at_builtin; refine wpList_runi rfl rfl _ _ rfl _ _ _ _ rfl rfl hrun2 ?_)
  obtain ⟨a3, c3, w3, hrun3, o3, n3, b3⟩ := appi_any w2 a l k I2.out HN.out hlen
  have R3 : Hid (w3.heap[w.heap.size]? = some (.cells (dcells p c s a l.length k) 24 (0, 0))) := bblock b3 R2.out
  have q23 : (w2.alloc (.cells #[] 3)).cell? ⟨w.heap.size, 3, none⟩ = some (.slice a l.length k) := bcell ((Below.refl _ w2).alloc (Nat.le_refl _) _) (dcell3 R2.out)
  have q33 := dcell3 R3.out
  have z33 := dthawed R3.out 3
  obtain ⟨V, hV⟩ : ∃ V, w3.setCell ⟨w.heap.size, 3, none⟩ (.slice a3 l.length c3) = V := ⟨_, rfl⟩
  have HV : Hid (w3.setCell ⟨w.heap.size, 3, none⟩ (.slice a3 l.length c3) = V) := hV
  have RV : Hid (V.heap[w.heap.size]? = some (.cells (dcells p c s a3 l.length c3) 24 (0, 0))) := by show _ = _; rw [← hV, heap_put R3.out]; simp [dcells]
  have OV : Hid (OwnsI V w2.heap.size a3 l c3) := by show OwnsI _ _ _ _ _; rw [← hV]; exact ownsRow_setCell_below o3 (a := ⟨w.heap.size, 3, none⟩) (show w.heap.size < w2.heap.size from (Array.getElem?_eq_some_iff.1 R2.out).1) _
  have BV : Hid (Below w.heap.size w V) := by show Below _ _ _; rw [← hV]; exact (B2.out.trans (b3.mono B2.out.size)).setCell (Nat.le_refl _) _
  have onV : Only w.heap.size w3 V := by rw [← hV]; exact Only.set _ _ _ _
  have TV : Hid (Tabs V) := HT.out.keep BV.out
  have LV : Hid (IsI V a2 l) := ((ownsI_isI I1.out.all O2.out).keep b3).on onV (fun ad hd => by have h1 := (O2.out.parts.2.2.2 ad hd).1; have h2 := (Array.getElem?_eq_some_iff.1 R1.out).1; omega)
  have v0 := dcell0 RV.out
  have v1 := dcell1 RV.out
  have v2 := dcell2 RV.out
  have v3 := dcell3 RV.out
  clear o3 n3 b3 onV hV
  go_upto_region 5 with (at_builtin; refine wpList_runi rfl rfl _ _ rfl _ _ _ _ rfl rfl hrun3 ?_)
  rw [HV.out]
  go_wp2_with fail
  refine (of_fail p c s a3 c3 l x V TV.out (ownsI_isI I1.out.all OV.out) hm hp HF.out).mono ?_
  rintro e w4 ⟨rfl, b4⟩
  have B4 : Hid (Below w.heap.size w w4) := BV.out.trans (b4.mono BV.out.size)
  have I4 : Hid (IsI w4 a3 l) := (ownsI_isI I1.out.all OV.out).keep b4
  have L4 : Hid (IsI w4 a2 l) := LV.out.keep b4
  have u3 := bcell b4 v3
  clear b4
  go_wp2_with (go_at_call 27; refine (ints_true a3 a2 _ _ c3 c2 l w4 I4.out L4.out rfl rfl hm).mono ?_; rintro e w5 ⟨rfl, b5⟩; have B5 : Hid (Below w.heap.size w w5) := B4.out.trans (b5.mono B4.out.size); clear b5)
  go_ret
  exact ⟨rfl, B5.out⟩
end Go.Proofs.YtmahgdjbgkeecaaDoor
