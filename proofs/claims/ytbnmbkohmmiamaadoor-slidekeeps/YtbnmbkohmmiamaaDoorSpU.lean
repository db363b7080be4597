/- The data of a span in memory: what Data answers. -/
import Derived.Test.YtbnmbkohmmiamaaDoorSpJ
namespace Go.Proofs.YtbnmbkohmmiamaaDoor
open Go.RowKit
set_option linter.unusedVariables false

theorem lay4_else {w : World} {g h j : Nat} {p c s : Int} {v u : Value} (hne : h ≠ g) (hc : w.cell? ⟨h, j, none⟩ = some u) : (lay4 w g p c s v).cell? ⟨h, j, none⟩ = some u := by
  unfold lay4
  rw [(Only.set g 3 v _).cell (p := ⟨h, j, none⟩) hne, (Only.set g 2 _ _).cell (p := ⟨h, j, none⟩) hne, (Only.set g 1 _ _).cell (p := ⟨h, j, none⟩) hne, (Only.set g 0 _ _).cell (p := ⟨h, j, none⟩) hne]
  exact hc

theorem ownsI_of {w : World} {base : Nat} {a : Option Addr} {l : List Int} {cap : Nat} (h : Owns w base 3 .i64 a l cap) : OwnsI w base a l cap := h
theorem OwnsI.ofDrew {w v : World} {a : Option Addr} {l : List Int} {cap : Nat} (h : OwnsI w v.drew.heap.size a l cap) : OwnsI w v.heap.size a l cap := h
theorem list_own (b g n : Nat) (f : Nat → Bool) (w : World) (hS : SetAt w b g n f) (hT : TabB w) (l : List Int) (hl : lsL f n = l) :
    Calls Tryd.prog 62 #[.pointer (some ⟨b, 0, none⟩)] w fun e w' => ∃ a cap, e = .returned (.slice a l.length cap) ∧ OwnsI w' w.heap.size a l cap ∧ Below w.heap.size w w' := by
  subst hl
  refine (list_any b g n f w hS hT).mono ?_
  rintro e w' ⟨a, cap, rfl, o, b⟩
  exact ⟨a, cap, rfl, ownsI_of o, b⟩

set_option maxRecDepth 20000 in
set_option maxHeartbeats 2000000 in
theorem data_any (sb b g : Nat) (p c s : Int) (f : Nat → Bool) (w : World) (h : SpanAt w sb b g p c s f) (hT : TabB w) (l : List Int) (hl : lsL f (slN c) = l) :
    Calls Tryd.prog 50 #[.pointer (some ⟨sb, 0, none⟩)] w fun e w' => ∃ a cap, e = .returned (.agg #[.int .i64 p, .int .i64 c, .int .i64 s, .slice a l.length cap]) ∧ OwnsI w' w.heap.size a l cap ∧ Below w.heap.size w w' := by
  obtain ⟨D, hD, zD, rD, bD⟩ := dbox w 0 0 0 none 0 0
  have HD : Hid (w.alloc (.cells #[.int .i64 0, .int .i64 0, .int .i64 0, .slice none 0 0] 46) = D) := hD
  have BD : Hid (Below w.heap.size w D) := bD
  have ZD : Hid (D.heap.size = w.heap.size + 1) := zD
  have SD : Hid (SpanAt D sb b g p c s f) := h.keep bD
  have TD : Hid (TabB D) := hT.keep bD hT.1
  have RD : Hid (D.heap[w.heap.size]? = some (.cells (dcells 0 0 0 none 0 0) 46 (0, 0))) := rD
  have NE : Hid (sb ≠ w.heap.size) := Nat.ne_of_lt h.lt
  have HL : Hid (lsL f (slN c) = l) := hl
  have q0 := SD.out.box.b0
  have q1 := SD.out.box.b1
  have q2 := SD.out.box.b2
  have q3 := SD.out.at3
  clear h hT hD bD zD rD hl
  go_enter Tryd.func50, Tryd.ntmps50
  go_wp2_with fail
  rw [HD.out]
  go_region_held3 (fun w' => w'.cell? ⟨sb, 0, none⟩ = some (.int .i64 p) ∧ w'.cell? ⟨sb, 1, none⟩ = some (.int .i64 c) ∧ w'.cell? ⟨sb, 2, none⟩ = some (.int .i64 s) ∧ w'.cell? ⟨sb, 3, none⟩ = some (.pointer (some ⟨b, 0, none⟩))) (first | exact ⟨u0, u1, u2, u3⟩ | exact ⟨r0, r1, r2, r3⟩ | exact ⟨q0, q1, q2, q3⟩)
    ((go_at_call 62; refine (list_own b g (slN c) f _ SD.out.drew.set TD.out l HL.out).mono ?_; rintro e w2 ⟨a2, c2, rfl, o2, b2⟩; have B2 : Hid (Below D.heap.size D w2) := Below.ofDrew b2; have O2 : Hid (OwnsI w2 D.heap.size a2 l c2) := OwnsI.ofDrew o2; have R2 : Hid (w2.heap[w.heap.size]? = some (.cells (dcells 0 0 0 none 0 0) 46 (0, 0))) := bblock B2.out RD.out; have r0 := bcell B2.out q0; have r1 := bcell B2.out q1; have r2 := bcell B2.out q2; have r3 := bcell B2.out q3; have y0 := dcell0 R2.out; have y1 := dcell1 R2.out; have y2 := dcell2 R2.out; have y3 := dcell3 R2.out; have z0 := dthawed R2.out 0; have z1 := dthawed R2.out 1; have z2 := dthawed R2.out 2; have z3 := dthawed R2.out 3; have u0 := lay4_else (p := p) (c := c) (s := s) (v := .slice a2 l.length c2) NE.out r0; have u1 := lay4_else (p := p) (c := c) (s := s) (v := .slice a2 l.length c2) NE.out r1; have u2 := lay4_else (p := p) (c := c) (s := s) (v := .slice a2 l.length c2) NE.out r2; have u3 := lay4_else (p := p) (c := c) (s := s) (v := .slice a2 l.length c2) NE.out r3; unfold lay4 at u0 u1 u2 u3; clear o2 b2))
  obtain ⟨e0, e1, e2, e3⟩ := lay4_cells (p := p) (c := c) (s := s) (v := .slice a2 l.length c2) R2.out
  have O3 : Hid (OwnsI (lay4 w2 w.heap.size p c s (.slice a2 l.length c2)) w.heap.size a2 l c2) := (lay4_ownsI O2.out (by have := ZD.out; omega)).mono (by have := ZD.out; omega)
  have B3 : Hid (Below w.heap.size w (lay4 w2 w.heap.size p c s (.slice a2 l.length c2))) := lay4_below (BD.out.trans (B2.out.mono (by have := ZD.out; omega))) (Nat.le_refl _)
  unfold lay4 at e0 e1 e2 e3
  go_wp2
  refine bodyPost_ret (v := .agg #[.int .i64 p, .int .i64 c, .int .i64 s, .slice a2 l.length c2]) (by simp [results, Tryd.results50, go_sem, e0, e1, e2, e3]) rfl ⟨a2, c2, rfl, O3.out, B3.out⟩

end Go.Proofs.YtbnmbkohmmiamaaDoor
