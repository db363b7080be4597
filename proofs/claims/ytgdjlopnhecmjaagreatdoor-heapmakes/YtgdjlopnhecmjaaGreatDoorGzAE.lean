/- The data of a span: what the document's Same answers; the calls of a span that isn't there. -/
import Derived.Test.YtgdjlopnhecmjaaGreatDoorGzAD
import Derived.Deep.CutBlock
import Derived.Deep.CutRange
namespace Go.Proofs.YtgdjlopnhecmjaaGreatDoor
open Go.RowKit
set_option linter.unusedVariables false
set_option maxRecDepth 4000

/-- Data as cells. -/
def dcells (p c s : Int) (a : Option Addr) (n k : Nat) : Array Value := #[.int .i64 p, .int .i64 c, .int .i64 s, .slice a n k]
theorem dbox (w : World) (p c s : Int) (a : Option Addr) (n k : Nat) : ∃ w1, w.alloc (.cells #[.int .i64 p, .int .i64 c, .int .i64 s, .slice a n k] 130) = w1 ∧ w1.heap.size = w.heap.size + 1 ∧ w1.heap[w.heap.size]? = some (.cells (dcells p c s a n k) 130 (0, 0)) ∧ Below w.heap.size w w1 :=
  ⟨_, rfl, by simp, Go.heap_alloc_new w _, (Below.refl _ w).alloc (Nat.le_refl _) _⟩
theorem dcell0 {w : World} {g : Nat} {p c s : Int} {a : Option Addr} {n k : Nat} (h : w.heap[g]? = some (.cells (dcells p c s a n k) 130 (0, 0))) : w.cell? ⟨g, 0, none⟩ = some (.int .i64 p) := cell_of_row _ _ 0 _ _ _ h
theorem dcell1 {w : World} {g : Nat} {p c s : Int} {a : Option Addr} {n k : Nat} (h : w.heap[g]? = some (.cells (dcells p c s a n k) 130 (0, 0))) : w.cell? ⟨g, 1, none⟩ = some (.int .i64 c) := cell_of_row _ _ 1 _ _ _ h
theorem dcell2 {w : World} {g : Nat} {p c s : Int} {a : Option Addr} {n k : Nat} (h : w.heap[g]? = some (.cells (dcells p c s a n k) 130 (0, 0))) : w.cell? ⟨g, 2, none⟩ = some (.int .i64 s) := cell_of_row _ _ 2 _ _ _ h
theorem dcell3 {w : World} {g : Nat} {p c s : Int} {a : Option Addr} {n k : Nat} (h : w.heap[g]? = some (.cells (dcells p c s a n k) 130 (0, 0))) : w.cell? ⟨g, 3, none⟩ = some (.slice a n k) := cell_of_row _ _ 3 _ _ _ h
theorem dthawed {w : World} {g : Nat} {p c s : Int} {a : Option Addr} {n k : Nat} (h : w.heap[g]? = some (.cells (dcells p c s a n k) 130 (0, 0))) (j : Nat) : w.frozen? ⟨g, j, none⟩ = false := frozen_of_row _ _ j _ _ h
theorem bblock {w w' : World} {g : Nat} {o : Obj} (hb : Below w.heap.size w w') (h : w.heap[g]? = some o) : w'.heap[g]? = some o := by rw [hb.block g (Array.getElem?_eq_some_iff.1 h).1]; exact h

/-- Data are stored into their variable. -/
def lay4 (w : World) (g : Nat) (p c s : Int) (v : Value) : World := (((w.setCell ⟨g, 0, none⟩ (.int .i64 p)).setCell ⟨g, 1, none⟩ (.int .i64 c)).setCell ⟨g, 2, none⟩ (.int .i64 s)).setCell ⟨g, 3, none⟩ v
theorem lay4_cells {w : World} {g : Nat} {p c s p0 c0 s0 : Int} {v : Value} {a : Option Addr} {n k : Nat} (h : w.heap[g]? = some (.cells (dcells p0 c0 s0 a n k) 130 (0, 0))) :
    (lay4 w g p c s v).cell? ⟨g, 0, none⟩ = some (.int .i64 p) ∧ (lay4 w g p c s v).cell? ⟨g, 1, none⟩ = some (.int .i64 c) ∧ (lay4 w g p c s v).cell? ⟨g, 2, none⟩ = some (.int .i64 s) ∧ (lay4 w g p c s v).cell? ⟨g, 3, none⟩ = some v := by
  unfold lay4
  refine ⟨?_, ?_, ?_, ?_⟩
  · rw [cell_else (by decide), cell_else (by decide), cell_else (by decide), cell_set (dcell0 h)]
  · rw [cell_else (by decide), cell_else (by decide), cell_set (u := .int .i64 c0)]
    rw [cell_else (by decide)]; exact dcell1 h
  · rw [cell_else (by decide), cell_set (u := .int .i64 s0)]
    rw [cell_else (by decide), cell_else (by decide)]; exact dcell2 h
  · rw [cell_set (u := .slice a n k)]
    rw [cell_else (by decide), cell_else (by decide), cell_else (by decide)]; exact dcell3 h
theorem lay4_below {w w' : World} {g B : Nat} {p c s : Int} {v : Value} (h : Below B w w') (hB : B ≤ g) : Below B w (lay4 w' g p c s v) := (((h.setCell hB _).setCell hB _).setCell hB _).setCell hB _
theorem lay4_ownsI {w : World} {g base cap : Nat} {p c s : Int} {v : Value} {a : Option Addr} {l : List Int} (h : OwnsI w base a l cap) (hg : g < base) : OwnsI (lay4 w g p c s v) base a l cap :=
  ownsRow_setCell_below (ownsRow_setCell_below (ownsRow_setCell_below (ownsRow_setCell_below h (a := ⟨g, 0, none⟩) hg _) (a := ⟨g, 1, none⟩) hg _) (a := ⟨g, 2, none⟩) hg _) (a := ⟨g, 3, none⟩) hg _

set_option maxHeartbeats 1000000 in
/-- Same of the same data. -/
theorem same_true (p c s : Int) (a a' : Option Addr) (n n' k k' : Nat) (l : List Int) (w : World) (h : IsI w a l) (h' : IsI w a' l) (hn : n = l.length) (hn' : n' = l.length) (hm : l.length ≤ maxLen) :
    Calls Tryz.prog 166 #[.agg #[.int .i64 p, .int .i64 c, .int .i64 s, .slice a n k], .agg #[.int .i64 p, .int .i64 c, .int .i64 s, .slice a' n' k']] w fun e w' => e = .returned (.bool true) ∧ Below w.heap.size w w' := by
  subst hn hn'
  obtain ⟨D, hD, zD, rD, bD⟩ := dbox w p c s a l.length k
  have HD : Hid (w.alloc (.cells #[.int .i64 p, .int .i64 c, .int .i64 s, .slice a l.length k] 130) = D) := hD
  obtain ⟨E, hE, zE, rE, bE⟩ := dbox D p c s a' l.length k'
  have HE : Hid (D.alloc (.cells #[.int .i64 p, .int .i64 c, .int .i64 s, .slice a' l.length k'] 130) = E) := hE
  have rD' := bblock bE rD
  have HB : Hid (Below w.heap.size w E) := bD.trans (bE.mono (by omega))
  have I1 : Hid (IsI E a l) := h.keep HB.out
  have I2 : Hid (IsI E a' l) := h'.keep HB.out
  have c0 := dcell0 rD'
  have c1 := dcell1 rD'
  have c2 := dcell2 rD'
  have c3 := dcell3 rD'
  have d0 := dcell0 rE
  have d1 := dcell1 rE
  have d2 := dcell2 rE
  have d3 := dcell3 rE
  have ET : Hid (decide (l = l) = true) := decide_eq_true rfl
  have HZ : Hid (D.heap.size = w.heap.size + 1) := zD
  rw [zD] at d0 d1 d2 d3
  clear h h' hD hE zE rE rD rD' bD bE zD
  go_enter Tryz.func166, Tryz.ntmps166
  go_wp2_with (first
    | (rw [HD.out, HE.out]; fail)
    | (go_at_call 167; first | rw [HD.out, HE.out] | skip; refine (ints_any a a' _ _ k k' l l _ I1.out I2.out rfl rfl hm hm).mono ?_; rw [ET.out]; rintro e w1 ⟨rfl, b1⟩; have B1 : Hid (Below w.heap.size w w1) := HB.out.trans (b1.mono HB.out.size); clear b1))
  go_ret
  exact ⟨rfl, B1.out⟩

theorem take_nil (w : World) : Calls Tryz.prog 182 #[.pointer none] w fun e w' => e = .returned (.tuple #[.int .i64 0, .bool false]) ∧ w = w' := by
  go_enter Tryz.func182, Tryz.ntmps182
  go_wp2
  go_ret2
  exact ⟨rfl, rfl⟩
end Go.Proofs.YtgdjlopnhecmjaaGreatDoor

/- The data of a span in memory: what Data answers. -/
namespace Go.Proofs.YtgdjlopnhecmjaaGreatDoor
open Go.RowKit
set_option linter.unusedVariables false
set_option maxRecDepth 4000

theorem lay4_else {w : World} {g h j : Nat} {p c s : Int} {v u : Value} (hne : h ≠ g) (hc : w.cell? ⟨h, j, none⟩ = some u) : (lay4 w g p c s v).cell? ⟨h, j, none⟩ = some u := by
  unfold lay4
  rw [(Only.set g 3 v _).cell (p := ⟨h, j, none⟩) hne, (Only.set g 2 _ _).cell (p := ⟨h, j, none⟩) hne, (Only.set g 1 _ _).cell (p := ⟨h, j, none⟩) hne, (Only.set g 0 _ _).cell (p := ⟨h, j, none⟩) hne]
  exact hc

theorem ownsI_of {w : World} {base : Nat} {a : Option Addr} {l : List Int} {cap : Nat} (h : Owns w base 3 .i64 a l cap) : OwnsI w base a l cap := h
theorem OwnsI.ofDrew {w v : World} {a : Option Addr} {l : List Int} {cap : Nat} (h : OwnsI w v.drew.heap.size a l cap) : OwnsI w v.heap.size a l cap := h
theorem list_own (b g n : Nat) (f : Nat → Bool) (w : World) (hS : SetAt w b g n f) (hT : TabB w) (l : List Int) (hl : lsL f n = l) :
    Calls Tryz.prog 216 #[.pointer (some ⟨b, 0, none⟩)] w fun e w' => ∃ a cap, e = .returned (.slice a l.length cap) ∧ OwnsI w' w.heap.size a l cap ∧ Below w.heap.size w w' := by
  subst hl
  refine (list_any b g n f w hS hT).mono ?_
  rintro e w' ⟨a, cap, rfl, o, b⟩
  exact ⟨a, cap, rfl, ownsI_of o, b⟩

set_option maxRecDepth 20000 in
set_option maxHeartbeats 2000000 in
theorem data_any (sb b g : Nat) (p c s : Int) (f : Nat → Bool) (w : World) (h : SpanAt w sb b g p c s f) (hT : TabB w) (l : List Int) (hl : lsL f (slN c) = l) :
    Calls Tryz.prog 172 #[.pointer (some ⟨sb, 0, none⟩)] w fun e w' => ∃ a cap, e = .returned (.agg #[.int .i64 p, .int .i64 c, .int .i64 s, .slice a l.length cap]) ∧ OwnsI w' w.heap.size a l cap ∧ Below w.heap.size w w' := by
  obtain ⟨D, hD, zD, rD, bD⟩ := dbox w 0 0 0 none 0 0
  have HD : Hid (w.alloc (.cells #[.int .i64 0, .int .i64 0, .int .i64 0, .slice none 0 0] 130) = D) := hD
  have BD : Hid (Below w.heap.size w D) := bD
  have ZD : Hid (D.heap.size = w.heap.size + 1) := zD
  have SD : Hid (SpanAt D sb b g p c s f) := h.keep bD
  have TD : Hid (TabB D) := hT.keep bD hT.1
  have RD : Hid (D.heap[w.heap.size]? = some (.cells (dcells 0 0 0 none 0 0) 130 (0, 0))) := rD
  have NE : Hid (sb ≠ w.heap.size) := Nat.ne_of_lt h.lt
  have HL : Hid (lsL f (slN c) = l) := hl
  have q0 := SD.out.box.b0
  have q1 := SD.out.box.b1
  have q2 := SD.out.box.b2
  have q3 := SD.out.at3
  clear h hT hD bD zD rD hl
  go_enter Tryz.func172, Tryz.ntmps172
  go_wp2_with fail
  rw [HD.out]
  go_region_held3 (fun w' => w'.cell? ⟨sb, 0, none⟩ = some (.int .i64 p) ∧ w'.cell? ⟨sb, 1, none⟩ = some (.int .i64 c) ∧ w'.cell? ⟨sb, 2, none⟩ = some (.int .i64 s) ∧ w'.cell? ⟨sb, 3, none⟩ = some (.pointer (some ⟨b, 0, none⟩))) (first | exact ⟨u0, u1, u2, u3⟩ | exact ⟨r0, r1, r2, r3⟩ | exact ⟨q0, q1, q2, q3⟩)
    ((go_at_call 216; refine (list_own b g (slN c) f _ SD.out.drew.set TD.out l HL.out).mono ?_; rintro e w2 ⟨a2, c2, rfl, o2, b2⟩; have B2 : Hid (Below D.heap.size D w2) := Below.ofDrew b2; have O2 : Hid (OwnsI w2 D.heap.size a2 l c2) := OwnsI.ofDrew o2; have R2 : Hid (w2.heap[w.heap.size]? = some (.cells (dcells 0 0 0 none 0 0) 130 (0, 0))) := bblock B2.out RD.out; have r0 := bcell B2.out q0; have r1 := bcell B2.out q1; have r2 := bcell B2.out q2; have r3 := bcell B2.out q3; have y0 := dcell0 R2.out; have y1 := dcell1 R2.out; have y2 := dcell2 R2.out; have y3 := dcell3 R2.out; have z0 := dthawed R2.out 0; have z1 := dthawed R2.out 1; have z2 := dthawed R2.out 2; have z3 := dthawed R2.out 3; have u0 := lay4_else (p := p) (c := c) (s := s) (v := .slice a2 l.length c2) NE.out r0; have u1 := lay4_else (p := p) (c := c) (s := s) (v := .slice a2 l.length c2) NE.out r1; have u2 := lay4_else (p := p) (c := c) (s := s) (v := .slice a2 l.length c2) NE.out r2; have u3 := lay4_else (p := p) (c := c) (s := s) (v := .slice a2 l.length c2) NE.out r3; unfold lay4 at u0 u1 u2 u3; clear o2 b2))
  obtain ⟨e0, e1, e2, e3⟩ := lay4_cells (p := p) (c := c) (s := s) (v := .slice a2 l.length c2) R2.out
  have O3 : Hid (OwnsI (lay4 w2 w.heap.size p c s (.slice a2 l.length c2)) w.heap.size a2 l c2) := (lay4_ownsI O2.out (by have := ZD.out; omega)).mono (by have := ZD.out; omega)
  have B3 : Hid (Below w.heap.size w (lay4 w2 w.heap.size p c s (.slice a2 l.length c2))) := lay4_below (BD.out.trans (B2.out.mono (by have := ZD.out; omega))) (Nat.le_refl _)
  unfold lay4 at e0 e1 e2 e3
  go_wp2
  refine bodyPost_ret (v := .agg #[.int .i64 p, .int .i64 c, .int .i64 s, .slice a2 l.length c2]) (by simp [results, Tryz.results172, go_sem, e0, e1, e2, e3]) rfl ⟨a2, c2, rfl, O3.out, B3.out⟩

end Go.Proofs.YtgdjlopnhecmjaaGreatDoor

/- What the laws share: lists of slots that are compared. -/
namespace Go.Proofs.YtgdjlopnhecmjaaGreatDoor
open Go.RowKit
set_option linter.unusedVariables false
set_option maxRecDepth 4000

end Go.Proofs.YtgdjlopnhecmjaaGreatDoor

/- The span that data tell: takeAll, Of. -/
namespace Go.Proofs.YtgdjlopnhecmjaaGreatDoor
open Go.RowKit
set_option linter.unusedVariables false
set_option maxRecDepth 4000

end Go.Proofs.YtgdjlopnhecmjaaGreatDoor

/- What SpanBack stands on: lists turned one by one beside a span. -/
namespace Go.Proofs.YtgdjlopnhecmjaaGreatDoor
open Go.RowKit
set_option linter.unusedVariables false
set_option maxRecDepth 4000

end Go.Proofs.YtgdjlopnhecmjaaGreatDoor
