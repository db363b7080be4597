/- The data of a span: what the document's Same answers; the calls of a span that isn't there. -/
import Derived.Test.YtbfamjnnlcopiaaGreatDoorGzAE
import Derived.Deep.CutBlock
import Derived.Deep.CutRange
namespace Go.Proofs.YtbfamjnnlcopiaaGreatDoor
open Go.RowKit
set_option linter.unusedVariables false
set_option maxRecDepth 4000

/-- Data as cells. -/
def dcells (p c s : Int) (a : Option Addr) (n k : Nat) : Array Value := #[.int .i64 p, .int .i64 c, .int .i64 s, .slice a n k]
theorem dbox (w : World) (p c s : Int) (a : Option Addr) (n k : Nat) : ∃ w1, w.alloc (.cells #[.int .i64 p, .int .i64 c, .int .i64 s, .slice a n k] 33) = w1 ∧ w1.heap.size = w.heap.size + 1 ∧ w1.heap[w.heap.size]? = some (.cells (dcells p c s a n k) 33 (0, 0)) ∧ Below w.heap.size w w1 :=
  ⟨_, rfl, by simp, Go.heap_alloc_new w _, (Below.refl _ w).alloc (Nat.le_refl _) _⟩
theorem dcell0 {w : World} {g : Nat} {p c s : Int} {a : Option Addr} {n k : Nat} (h : w.heap[g]? = some (.cells (dcells p c s a n k) 33 (0, 0))) : w.cell? ⟨g, 0, none⟩ = some (.int .i64 p) := cell_of_row _ _ 0 _ _ _ h
theorem dcell1 {w : World} {g : Nat} {p c s : Int} {a : Option Addr} {n k : Nat} (h : w.heap[g]? = some (.cells (dcells p c s a n k) 33 (0, 0))) : w.cell? ⟨g, 1, none⟩ = some (.int .i64 c) := cell_of_row _ _ 1 _ _ _ h
theorem dcell2 {w : World} {g : Nat} {p c s : Int} {a : Option Addr} {n k : Nat} (h : w.heap[g]? = some (.cells (dcells p c s a n k) 33 (0, 0))) : w.cell? ⟨g, 2, none⟩ = some (.int .i64 s) := cell_of_row _ _ 2 _ _ _ h
theorem dcell3 {w : World} {g : Nat} {p c s : Int} {a : Option Addr} {n k : Nat} (h : w.heap[g]? = some (.cells (dcells p c s a n k) 33 (0, 0))) : w.cell? ⟨g, 3, none⟩ = some (.slice a n k) := cell_of_row _ _ 3 _ _ _ h
theorem dthawed {w : World} {g : Nat} {p c s : Int} {a : Option Addr} {n k : Nat} (h : w.heap[g]? = some (.cells (dcells p c s a n k) 33 (0, 0))) (j : Nat) : w.frozen? ⟨g, j, none⟩ = false := frozen_of_row _ _ j _ _ h
theorem bblock {w w' : World} {g : Nat} {o : Obj} (hb : Below w.heap.size w w') (h : w.heap[g]? = some o) : w'.heap[g]? = some o := by rw [hb.block g (Array.getElem?_eq_some_iff.1 h).1]; exact h

/-- Data are stored into their variable. -/
def lay4 (w : World) (g : Nat) (p c s : Int) (v : Value) : World := (((w.setCell ⟨g, 0, none⟩ (.int .i64 p)).setCell ⟨g, 1, none⟩ (.int .i64 c)).setCell ⟨g, 2, none⟩ (.int .i64 s)).setCell ⟨g, 3, none⟩ v
theorem lay4_cells {w : World} {g : Nat} {p c s p0 c0 s0 : Int} {v : Value} {a : Option Addr} {n k : Nat} (h : w.heap[g]? = some (.cells (dcells p0 c0 s0 a n k) 33 (0, 0))) :
    (lay4 w g p c s v).cell? ⟨g, 0, none⟩ = some (.int .i64 p) ∧ (lay4 w g p c s v).cell? ⟨g, 1, none⟩ = some (.int .i64 c) ∧ (lay4 w g p c s v).cell? ⟨g, 2, none⟩ = some (.int .i64 s) ∧ (lay4 w g p c s v).cell? ⟨g, 3, none⟩ = some v := by
  unfold lay4
  refine ⟨?_, ?_, ?_, ?_⟩
  · rw [cell_else (by decide), cell_else (by decide), cell_else (by decide), cell_set (dcell0 h)]
  · rw [cell_else (by decide), cell_else (by decide), cell_set (u := .int .i64 c0)]
    rw [cell_else (by decide)]; exact dcell1 h
  · rw [cell_else (by decide), cell_set (u := .int .i64 s0)]
    rw [cell_else (by decide), cell_else (by decide)]; exact dcell2 h
  · rw [cell_set (u := .slice a n k)]
    rw [cell_else (by decide), cell_else (by decide), cell_else (by decide)]; exact dcell3 h
theorem lay4_below {w w' : World} {g B : Nat} {p c s : Int} {v : Value} (h : Below B w w') (hB : B ≤ g) : Below B w (lay4 w' g p c s v) := (((h.setCell hB _).setCell hB _).setCell hB _).setCell hB _
theorem lay4_ownsI {w : World} {g base cap : Nat} {p c s : Int} {v : Value} {a : Option Addr} {l : List Int} (h : OwnsI w base a l cap) (hg : g < base) : OwnsI (lay4 w g p c s v) base a l cap :=
  ownsRow_setCell_below (ownsRow_setCell_below (ownsRow_setCell_below (ownsRow_setCell_below h (a := ⟨g, 0, none⟩) hg _) (a := ⟨g, 1, none⟩) hg _) (a := ⟨g, 2, none⟩) hg _) (a := ⟨g, 3, none⟩) hg _

set_option maxHeartbeats 1000000 in
/-- Same of the same data. -/
theorem same_true (p c s : Int) (a a' : Option Addr) (n n' k k' : Nat) (l : List Int) (w : World) (h : IsI w a l) (h' : IsI w a' l) (hn : n = l.length) (hn' : n' = l.length) (hm : l.length ≤ maxLen) :
    Calls Tryz.prog 21 #[.agg #[.int .i64 p, .int .i64 c, .int .i64 s, .slice a n k], .agg #[.int .i64 p, .int .i64 c, .int .i64 s, .slice a' n' k']] w fun e w' => e = .returned (.bool true) ∧ Below w.heap.size w w' := by
  subst hn hn'
  obtain ⟨D, hD, zD, rD, bD⟩ := dbox w p c s a l.length k
  have HD : Hid (w.alloc (.cells #[.int .i64 p, .int .i64 c, .int .i64 s, .slice a l.length k] 33) = D) := hD
  obtain ⟨E, hE, zE, rE, bE⟩ := dbox D p c s a' l.length k'
  have HE : Hid (D.alloc (.cells #[.int .i64 p, .int .i64 c, .int .i64 s, .slice a' l.length k'] 33) = E) := hE
  have rD' := bblock bE rD
  have HB : Hid (Below w.heap.size w E) := bD.trans (bE.mono (by omega))
  have I1 : Hid (IsI E a l) := h.keep HB.out
  have I2 : Hid (IsI E a' l) := h'.keep HB.out
  have c0 := dcell0 rD'
  have c1 := dcell1 rD'
  have c2 := dcell2 rD'
  have c3 := dcell3 rD'
  have d0 := dcell0 rE
  have d1 := dcell1 rE
  have d2 := dcell2 rE
  have d3 := dcell3 rE
  have ET : Hid (decide (l = l) = true) := decide_eq_true rfl
  have HZ : Hid (D.heap.size = w.heap.size + 1) := zD
  rw [zD] at d0 d1 d2 d3
  clear h h' hD hE zE rE rD rD' bD bE zD
  go_enter Tryz.func21, Tryz.ntmps21
  go_wp2_with (first
    | (rw [HD.out, HE.out]; fail)
    | (go_at_call 36; first | rw [HD.out, HE.out] | skip; refine (ints_any a a' _ _ k k' l l _ I1.out I2.out rfl rfl hm hm).mono ?_; rw [ET.out]; rintro e w1 ⟨rfl, b1⟩; have B1 : Hid (Below w.heap.size w w1) := HB.out.trans (b1.mono HB.out.size); clear b1))
  go_ret
  exact ⟨rfl, B1.out⟩

theorem size_nil (w : World) : Calls Tryz.prog 63 #[.pointer none] w fun e w' => e = .returned (.int .i64 0) ∧ w = w' := by
  go_enter Tryz.func63, Tryz.ntmps63
  go_wp2
  go_ret
  exact ⟨rfl, rfl⟩
theorem live_nil (w : World) : Calls Tryz.prog 62 #[.pointer none] w fun e w' => e = .returned (.int .i64 0) ∧ w = w' := by
  go_enter Tryz.func62, Tryz.ntmps62
  go_wp2
  go_ret
  exact ⟨rfl, rfl⟩
theorem slot_nil (i : Int) (w : World) : Calls Tryz.prog 100 #[.pointer none, .int .i64 i] w fun e w' => e = .returned (.tuple #[.int .i64 0, .bool false]) ∧ w = w' := by
  go_enter Tryz.func100, Tryz.ntmps100
  go_wp2
  go_ret2
  exact ⟨rfl, rfl⟩
end Go.Proofs.YtbfamjnnlcopiaaGreatDoor

/- The data of a span in memory: what Data answers. -/
namespace Go.Proofs.YtbfamjnnlcopiaaGreatDoor
open Go.RowKit
set_option linter.unusedVariables false
set_option maxRecDepth 4000

theorem lay4_else {w : World} {g h j : Nat} {p c s : Int} {v u : Value} (hne : h ≠ g) (hc : w.cell? ⟨h, j, none⟩ = some u) : (lay4 w g p c s v).cell? ⟨h, j, none⟩ = some u := by
  unfold lay4
  rw [(Only.set g 3 v _).cell (p := ⟨h, j, none⟩) hne, (Only.set g 2 _ _).cell (p := ⟨h, j, none⟩) hne, (Only.set g 1 _ _).cell (p := ⟨h, j, none⟩) hne, (Only.set g 0 _ _).cell (p := ⟨h, j, none⟩) hne]
  exact hc

theorem ownsI_of {w : World} {base : Nat} {a : Option Addr} {l : List Int} {cap : Nat} (h : Owns w base 3 .i64 a l cap) : OwnsI w base a l cap := h
theorem OwnsI.ofDrew {w v : World} {a : Option Addr} {l : List Int} {cap : Nat} (h : OwnsI w v.drew.heap.size a l cap) : OwnsI w v.heap.size a l cap := h
theorem list_own (b g n : Nat) (f : Nat → Bool) (w : World) (hS : SetAt w b g n f) (hT : TabB w) (l : List Int) (hl : lsL f n = l) :
    Calls Tryz.prog 84 #[.pointer (some ⟨b, 0, none⟩)] w fun e w' => ∃ a cap, e = .returned (.slice a l.length cap) ∧ OwnsI w' w.heap.size a l cap ∧ Below w.heap.size w w' := by
  subst hl
  refine (list_any b g n f w hS hT).mono ?_
  rintro e w' ⟨a, cap, rfl, o, b⟩
  exact ⟨a, cap, rfl, ownsI_of o, b⟩

set_option maxRecDepth 20000 in
set_option maxHeartbeats 2000000 in
theorem data_any (sb b g : Nat) (p c s : Int) (f : Nat → Bool) (w : World) (h : SpanAt w sb b g p c s f) (hT : TabB w) (l : List Int) (hl : lsL f (slN c) = l) :
    Calls Tryz.prog 66 #[.pointer (some ⟨sb, 0, none⟩)] w fun e w' => ∃ a cap, e = .returned (.agg #[.int .i64 p, .int .i64 c, .int .i64 s, .slice a l.length cap]) ∧ OwnsI w' w.heap.size a l cap ∧ Below w.heap.size w w' := by
  obtain ⟨D, hD, zD, rD, bD⟩ := dbox w 0 0 0 none 0 0
  have HD : Hid (w.alloc (.cells #[.int .i64 0, .int .i64 0, .int .i64 0, .slice none 0 0] 33) = D) := hD
  have BD : Hid (Below w.heap.size w D) := bD
  have ZD : Hid (D.heap.size = w.heap.size + 1) := zD
  have SD : Hid (SpanAt D sb b g p c s f) := h.keep bD
  have TD : Hid (TabB D) := hT.keep bD hT.1
  have RD : Hid (D.heap[w.heap.size]? = some (.cells (dcells 0 0 0 none 0 0) 33 (0, 0))) := rD
  have NE : Hid (sb ≠ w.heap.size) := Nat.ne_of_lt h.lt
  have HL : Hid (lsL f (slN c) = l) := hl
  have q0 := SD.out.box.b0
  have q1 := SD.out.box.b1
  have q2 := SD.out.box.b2
  have q3 := SD.out.at3
  clear h hT hD bD zD rD hl
  go_enter Tryz.func66, Tryz.ntmps66
  go_wp2_with fail
  rw [HD.out]
  go_region_held3 (fun w' => w'.cell? ⟨sb, 0, none⟩ = some (.int .i64 p) ∧ w'.cell? ⟨sb, 1, none⟩ = some (.int .i64 c) ∧ w'.cell? ⟨sb, 2, none⟩ = some (.int .i64 s) ∧ w'.cell? ⟨sb, 3, none⟩ = some (.pointer (some ⟨b, 0, none⟩))) (first | exact ⟨u0, u1, u2, u3⟩ | exact ⟨r0, r1, r2, r3⟩ | exact ⟨q0, q1, q2, q3⟩)
    ((go_at_call 84; refine (list_own b g (slN c) f _ SD.out.drew.set TD.out l HL.out).mono ?_; rintro e w2 ⟨a2, c2, rfl, o2, b2⟩; have B2 : Hid (Below D.heap.size D w2) := Below.ofDrew b2; have O2 : Hid (OwnsI w2 D.heap.size a2 l c2) := OwnsI.ofDrew o2; have R2 : Hid (w2.heap[w.heap.size]? = some (.cells (dcells 0 0 0 none 0 0) 33 (0, 0))) := bblock B2.out RD.out; have r0 := bcell B2.out q0; have r1 := bcell B2.out q1; have r2 := bcell B2.out q2; have r3 := bcell B2.out q3; have y0 := dcell0 R2.out; have y1 := dcell1 R2.out; have y2 := dcell2 R2.out; have y3 := dcell3 R2.out; have z0 := dthawed R2.out 0; have z1 := dthawed R2.out 1; have z2 := dthawed R2.out 2; have z3 := dthawed R2.out 3; have u0 := lay4_else (p := p) (c := c) (s := s) (v := .slice a2 l.length c2) NE.out r0; have u1 := lay4_else (p := p) (c := c) (s := s) (v := .slice a2 l.length c2) NE.out r1; have u2 := lay4_else (p := p) (c := c) (s := s) (v := .slice a2 l.length c2) NE.out r2; have u3 := lay4_else (p := p) (c := c) (s := s) (v := .slice a2 l.length c2) NE.out r3; unfold lay4 at u0 u1 u2 u3; clear o2 b2))
  obtain ⟨e0, e1, e2, e3⟩ := lay4_cells (p := p) (c := c) (s := s) (v := .slice a2 l.length c2) R2.out
  have O3 : Hid (OwnsI (lay4 w2 w.heap.size p c s (.slice a2 l.length c2)) w.heap.size a2 l c2) := (lay4_ownsI O2.out (by have := ZD.out; omega)).mono (by have := ZD.out; omega)
  have B3 : Hid (Below w.heap.size w (lay4 w2 w.heap.size p c s (.slice a2 l.length c2))) := lay4_below (BD.out.trans (B2.out.mono (by have := ZD.out; omega))) (Nat.le_refl _)
  unfold lay4 at e0 e1 e2 e3
  go_wp2
  refine bodyPost_ret (v := .agg #[.int .i64 p, .int .i64 c, .int .i64 s, .slice a2 l.length c2]) (by simp [results, Tryz.results66, go_sem, e0, e1, e2, e3]) rfl ⟨a2, c2, rfl, O3.out, B3.out⟩

end Go.Proofs.YtbfamjnnlcopiaaGreatDoor

/- What the laws share: lists of slots that are compared. -/
namespace Go.Proofs.YtbfamjnnlcopiaaGreatDoor
open Go.RowKit
set_option linter.unusedVariables false
set_option maxRecDepth 4000

end Go.Proofs.YtbfamjnnlcopiaaGreatDoor

/- The span that data tell: takeAll, Of. -/
namespace Go.Proofs.YtbfamjnnlcopiaaGreatDoor
open Go.RowKit
set_option linter.unusedVariables false
set_option maxRecDepth 4000

/-- A span on which a law goes on: its blocks are none that stood at the beginning. -/
structure Spn (w wr : World) (sb b g : Nat) (p c s : Int) (f : Nat → Bool) : Prop where
  at' : SpanAt wr sb b g p c s f
  low : Below w.heap.size w wr
  gs : w.heap.size ≤ sb
  gb : w.heap.size ≤ b
  gg : w.heap.size ≤ g
theorem Spn.next {w wr w' : World} {sb b g : Nat} {p c s : Int} {f f' : Nat → Bool} (h : Spn w wr sb b g p c s f) (hs : SpanAt w' sb b g p c s f') (ho : Only g wr w') : Spn w w' sb b g p c s f' :=
  ⟨hs, h.low.trans (ho.below h.gg), h.gs, h.gb, h.gg⟩
theorem Spn.keep {w wr w' : World} {sb b g : Nat} {p c s : Int} {f : Nat → Bool} (h : Spn w wr sb b g p c s f) (hb : Below wr.heap.size wr w') : Spn w w' sb b g p c s f :=
  ⟨h.at'.keep hb, h.low.trans (hb.mono h.low.size), h.gs, h.gb, h.gg⟩
theorem Spn.drew {w wr : World} {sb b g : Nat} {p c s : Int} {f : Nat → Bool} (h : Spn w wr sb b g p c s f) : Spn w wr.drew sb b g p c s f := ⟨h.at'.drew, Below.toDrew h.low, h.gs, h.gb, h.gg⟩
/-- The same, told of a beginning further back. -/
theorem Spn.back {w v wr : World} {sb b g : Nat} {p c s : Int} {f : Nat → Bool} (h : Spn v wr sb b g p c s f) (hb : Below w.heap.size w v) : Spn w wr sb b g p c s f :=
  ⟨h.at', hb.trans (h.low.mono hb.size), Nat.le_trans hb.size h.gs, Nat.le_trans hb.size h.gb, Nat.le_trans hb.size h.gg⟩

/-- What takeAll leaves. -/
def TAp (w0 : World) (sb b g : Nat) (p c s : Int) (l : List Int) (r : Bool) (e : Ending) (w' : World) : Prop :=
  e = .returned (.bool r) ∧ Below w0.heap.size w0 w' ∧ (r = true → Spn w0 w' sb b g p c s (fOf l))
set_option maxRecDepth 20000 in
set_option maxHeartbeats 2000000 in
theorem takeAll_any (sb b g : Nat) (p c s : Int) (a : Option Addr) (cap : Nat) (l : List Int) (r : Bool) (w0 w : World) (hI : IsI w0 a l) (hm : l.length ≤ maxLen) (h : Spn w0 w sb b g p c s (fun _ => false)) (hr : okL (slN c) (-1) l = r) :
    Calls Tryz.prog 94 #[.pointer (some ⟨sb, 3, none⟩), .slice a l.length cap] w (TAp w0 sb b g p c s l r) := by
  have HI : Hid (IsI w0 a l) := hI
  have HS : Hid (Spn w0 w sb b g p c s (fOf (l.take 0))) := by show Spn _ _ _ _ _ _ _ _ _; rw [List.take_zero, fOf_nil]; exact h
  have HR : Hid (okL (slN c) (-1) l = r) := hr
  have few := h.at'.set.few
  unfold maxLen at hm
  clear hI h hr
  go_enter Tryz.func94, Tryz.ntmps94
  go_wp2
  go_loopw [5, 10] (fun lv iv wr => ∃ (k : Nat) (t : Int), k ≤ l.length ∧ iv = .int .i64 (k : Nat) ∧ lv = .int .i64 t ∧ -1 ≤ t ∧ t ≤ 9223372036854775807 ∧ (∀ i : Nat, fOf (l.take k) i = true → (i : Int) ≤ t) ∧ okL (slN c) (-1) l = okL (slN c) t (l.drop k) ∧ Spn w0 wr sb b g p c s (fOf (l.take k))) (fun _ iv _ => l.length - (intOf iv).toNat)
  case atStart => exact ⟨0, -1, Nat.zero_le _, rfl, rfl, by omega, by omega, fun i hi => by simp [fOf] at hi, rfl, HS.out⟩
  case round =>
    clear HS
    obtain ⟨k, t, hk, rfl, rfl, t0, t1, hA, hO, hS⟩ := hrel
    rename World => wr
    have HA : Hid (∀ i : Nat, fOf (l.take k) i = true → (i : Int) ≤ t) := hA
    have HO : Hid (okL (slN c) (-1) l = okL (slN c) t (l.drop k)) := hO
    have HS : Hid (Spn w0 wr sb b g p c s (fOf (l.take k))) := hS
    have b3 := hS.at'.at3
    clear hA hO hS
    by_cases hlt : k < l.length
    · obtain ⟨hin, h0 | ⟨ba, off, rfl, hba, hc⟩⟩ := HI.out
      · rw [h0] at hlt; simp at hlt
      have hcell := (HS.out.low.cell (p := ⟨ba, off + k, none⟩) hba).trans (hc k hlt)
      have hxb := AllI.at (show AllI l from hin) k
      have ST : Hid (okL (slN c) t (l.drop k) = (decide (t < l.getD k 0 ∧ l.getD k 0 < (slN c : Int)) && okL (slN c) (l.getD k 0) (l.drop (k + 1)))) := okL_step (slN c) t l k hlt
      have FM : Hid (0 ≤ l.getD k 0 → (fun x => if x = (l.getD k 0).toNat then true else fOf (l.take k) x) = fOf (l.take (k + 1))) := fun h0 => fOf_more l k hlt h0
      obtain ⟨x, hx⟩ : ∃ x, l.getD k 0 = x := ⟨_, rfl⟩
      rw [hx] at hcell hxb ST FM
      clear hx hc hin hba
      by_cases hle : x ≤ t
      · have E : Hid (r = false) := by show _ = _; rw [← HR.out, HO.out, ST.out, decide_eq_false (by omega), Bool.false_and]
        go_wp2
        go_ret
        exact ⟨ret_bool E.out.symm, HS.out.low, fun h => by rw [E.out] at h; cases h⟩
      · by_cases hn : x < (slN c : Int)
        · obtain ⟨j, rfl⟩ : ∃ j : Nat, x = j := ⟨x.toNat, by omega⟩
          have hp : isP (slN c) (j : Int) = true := isP_true.2 (by omega)
          have hfj : fOf (l.take k) j = false := by
            cases hf : fOf (l.take k) j
            · rfl
            · have := HA.out j hf; omega
          have P : Hid ((isP (slN c) (j : Int) && !fOf (l.take k) (Int.toNat (j : Int))) = true) := by show _ = _; rw [hp, Int.toNat_natCast, hfj]; rfl
          have T : Hid (turn (slN c) (fOf (l.take k)) (j : Int) true = fOf (l.take (k + 1))) := by
            show _ = _
            rw [← FM.out (by omega)]
            funext y; rw [← turn_put hp y]; rfl
          have NA : Hid (∀ i : Nat, fOf (l.take (k + 1)) i = true → (i : Int) ≤ (j : Int)) := fun i hi => by
            rw [← FM.out (by omega)] at hi
            by_cases e : i = j
            · omega
            · have hi : (if i = (Int.toNat (j : Int)) then true else fOf (l.take k) i) = true := hi
              rw [if_neg (by simpa using e)] at hi
              have := HA.out i hi
              omega
          have NO : Hid (okL (slN c) (-1) l = okL (slN c) (j : Int) (l.drop (k + 1))) := by show _ = _; rw [HO.out, ST.out, decide_eq_true (by omega), Bool.true_and]
          have hji : (j : Int) ≤ 65536 := by omega
          clear hp hfj
          go_wp2_with (go_at_call 79; refine (sadd_any b g (slN c) (fOf (l.take k)) (j : Int) wr HS.out.at'.set).mono ?_; rw [P.out, T.out]; rintro e w1 ⟨rfl, s1, o1⟩; have S1 : Hid (Spn w0 w1 sb b g p c s (fOf (l.take (k + 1)))) := HS.out.next (HS.out.at'.turned s1 o1) o1; clear s1 o1)
          go_roundw
          case rel => exact ⟨k + 1, (j : Int), by omega, by go_num, rfl, by omega, by omega, NA.out, NO.out, S1.out⟩
          case measure => simp [intOf]; omega
        · have hp : isP (slN c) x = false := isP_false.2 (by omega)
          have P : Hid ((isP (slN c) x && !fOf (l.take k) (Int.toNat x)) = false) := by show _ = _; rw [hp]; rfl
          have E : Hid (r = false) := by show _ = _; rw [← HR.out, HO.out, ST.out, decide_eq_false (by omega), Bool.false_and]
          clear hp
          go_wp2_with (go_at_call 79; refine (sadd_any b g (slN c) (fOf (l.take k)) x wr HS.out.at'.set).mono ?_; rw [P.out]; rintro e w1 ⟨rfl, s1, o1⟩; have B1 : Hid (Below w0.heap.size w0 w1) := HS.out.low.trans (o1.below HS.out.gg); clear s1 o1)
          go_ret
          exact ⟨ret_bool E.out.symm, B1.out, fun h => by rw [E.out] at h; cases h⟩
    · obtain rfl : k = l.length := by omega
      have E : Hid (r = true) := by show _ = _; rw [← HR.out, HO.out]; exact okL_end _ _ _ _ (Nat.le_refl _)
      have F : Hid (Spn w0 wr sb b g p c s (fOf l)) := by have q := HS.out; rw [List.take_length] at q; exact q
      go_wp2
      go_ret
      exact ⟨ret_bool E.out.symm, F.out.low, fun _ => F.out⟩

theorem of_bad (p c s : Int) (a : Option Addr) (n cap : Nat) (w : World) (hT : Tabs w) (hp : -9223372036854775808 ≤ p ∧ p ≤ 9223372036854775807) (x : Int) (hx : newE p c s = x) (h0 : x ≠ 0) :
    Calls Tryz.prog 61 #[.agg #[.int .i64 p, .int .i64 c, .int .i64 s, .slice a n cap]] w fun e w' => e = .returned (.tuple #[.pointer none, .int .i64 x]) ∧ Below w.heap.size w w' := by
  obtain ⟨D, hD, zD, rD, bD⟩ := dbox w p c s a n cap
  have HD : Hid (w.alloc (.cells #[.int .i64 p, .int .i64 c, .int .i64 s, .slice a n cap] 33) = D) := hD
  have BD : Hid (Below w.heap.size w D) := bD
  have TD : Hid (Tabs D) := hT.keep bD
  have c0 := dcell0 rD
  have c1 := dcell1 rD
  have c2 := dcell2 rD
  have HX : Hid (newE p c s = x) := hx
  have hne : (x == 0) = false := beq_eq_false_iff_ne.2 h0
  have hne' : (x != 0) = true := by rw [bne, hne]; rfl
  clear hD zD rD bD hT hx
  go_enter Tryz.func61, Tryz.ntmps61
  go_upto_region 1 with (fail)
  rw [HD.out]
  go_wp2_with (go_at_call 81; refine (new_bad p c s D TD.out hp x HX.out h0).mono ?_; rintro e w1 ⟨rfl, b1⟩; have B1 : Hid (Below w.heap.size w w1) := BD.out.trans (b1.mono BD.out.size); clear b1)
  go_ret2
  exact ⟨rfl, B1.out⟩

set_option maxRecDepth 20000 in
set_option maxHeartbeats 2000000 in
theorem of_form (p c s : Int) (a : Option Addr) (cap : Nat) (l : List Int) (w : World) (hT : Tabs w) (hI : IsI w a l) (hm : l.length ≤ maxLen) (hx : newE p c s = 0) (hl : okL (slN c) (-1) l = false) :
    Calls Tryz.prog 61 #[.agg #[.int .i64 p, .int .i64 c, .int .i64 s, .slice a l.length cap]] w fun e w' => e = .returned (.tuple #[.pointer none, .int .i64 4]) ∧ Below w.heap.size w w' := by
  obtain ⟨D, hD, zD, rD, bD⟩ := dbox w p c s a l.length cap
  have HD : Hid (w.alloc (.cells #[.int .i64 p, .int .i64 c, .int .i64 s, .slice a l.length cap] 33) = D) := hD
  have BD : Hid (Below w.heap.size w D) := bD
  have TD : Hid (Tabs D) := hT.keep bD
  have ID : Hid (IsI D a l) := hI.keep bD
  have RT : Hid (Rt p c s) := newE_rt hx
  have c0 := dcell0 rD
  have c1 := dcell1 rD
  have c2 := dcell2 rD
  have c3 := dcell3 rD
  have HX : Hid (newE p c s = 0) := hx
  have HL : Hid (okL (slN c) (-1) l = false) := hl
  have LT : Hid (w.heap.size < D.heap.size) := by show w.heap.size < D.heap.size; omega
  clear hD zD rD bD hT hx hI hl
  go_enter Tryz.func61, Tryz.ntmps61
  go_upto_region 1 with (fail)
  rw [HD.out]
  go_wp2_with (go_at_call 81; refine (new_ok p c s D TD.out RT.out HX.out).mono ?_; rintro e w1 ⟨sb, b, g, rfl, s1, b1, g1, g2, g3⟩; have S1 : Hid (Spn D w1 sb b g p c s (fun _ => false)) := ⟨s1, b1, g1, g2, g3⟩; have B1 : Hid (Below w.heap.size w w1) := BD.out.trans (b1.mono BD.out.size); have d3 := bcell b1 c3; clear s1 b1 g1 g2 g3)
  go_region_held3 (fun w' => w'.cell? ⟨w.heap.size, 3, none⟩ = some (.slice a l.length cap)) (first | exact e3 | exact d3)
    ((go_at_call 94; refine (takeAll_any sb b g p c s a cap l false D _ ID.out hm S1.out.drew HL.out).mono ?_; rintro e w2 ⟨rfl, b2, _⟩; have B2 : Hid (Below w.heap.size w w2) := BD.out.trans (b2.mono BD.out.size); have e3 := bcell b2 c3; clear b2))
  go_wp2
  go_ret2
  exact ⟨rfl, B2.out⟩

set_option maxRecDepth 20000 in
set_option maxHeartbeats 2000000 in
theorem of_ok (p c s : Int) (a : Option Addr) (cap : Nat) (l : List Int) (w : World) (hT : Tabs w) (hI : IsI w a l) (hm : l.length ≤ maxLen) (hx : newE p c s = 0) (hl : okL (slN c) (-1) l = true) :
    Calls Tryz.prog 61 #[.agg #[.int .i64 p, .int .i64 c, .int .i64 s, .slice a l.length cap]] w fun e w' => ∃ sb b g, e = .returned (.tuple #[.pointer (some ⟨sb, 0, none⟩), .int .i64 0]) ∧ Spn w w' sb b g p c s (fOf l) := by
  obtain ⟨D, hD, zD, rD, bD⟩ := dbox w p c s a l.length cap
  have HD : Hid (w.alloc (.cells #[.int .i64 p, .int .i64 c, .int .i64 s, .slice a l.length cap] 33) = D) := hD
  have BD : Hid (Below w.heap.size w D) := bD
  have TD : Hid (Tabs D) := hT.keep bD
  have ID : Hid (IsI D a l) := hI.keep bD
  have RT : Hid (Rt p c s) := newE_rt hx
  have c0 := dcell0 rD
  have c1 := dcell1 rD
  have c2 := dcell2 rD
  have c3 := dcell3 rD
  have HX : Hid (newE p c s = 0) := hx
  have HL : Hid (okL (slN c) (-1) l = true) := hl
  clear hD zD rD bD hT hx hI hl
  go_enter Tryz.func61, Tryz.ntmps61
  go_upto_region 1 with (fail)
  rw [HD.out]
  go_wp2_with (go_at_call 81; refine (new_ok p c s D TD.out RT.out HX.out).mono ?_; rintro e w1 ⟨sb, b, g, rfl, s1, b1, g1, g2, g3⟩; have S1 : Hid (Spn D w1 sb b g p c s (fun _ => false)) := ⟨s1, b1, g1, g2, g3⟩; have d3 := bcell b1 c3; clear s1 b1 g1 g2 g3)
  go_region_held3 (fun w' => w'.cell? ⟨w.heap.size, 3, none⟩ = some (.slice a l.length cap)) (first | exact e3 | exact d3)
    ((go_at_call 94; refine (takeAll_any sb b g p c s a cap l true D _ ID.out hm S1.out.drew HL.out).mono ?_; rintro e w2 ⟨rfl, b2, s2⟩; have S2 : Hid (Spn w w2 sb b g p c s (fOf l)) := (s2 rfl).back BD.out; have e3 := bcell b2 c3; clear b2 s2))
  go_wp2
  go_ret2
  exact ⟨sb, b, g, rfl, S2.out⟩
end Go.Proofs.YtbfamjnnlcopiaaGreatDoor

/- What SpanBack stands on: lists turned one by one beside a span. -/
namespace Go.Proofs.YtbfamjnnlcopiaaGreatDoor
open Go.RowKit
set_option linter.unusedVariables false
set_option maxRecDepth 4000

theorem heap_put {w : World} {g j : Nat} {v : Value} {cs : Array Value} {t : TypeId} (h : w.heap[g]? = some (.cells cs t (0, 0))) : (w.setCell ⟨g, j, none⟩ v).heap[g]? = some (.cells (cs.setIfInBounds j v) t (0, 0)) := by
  simp only [World.setCell, Array.getElem?_modify, h]
  simp
/-- Numbers turned in a list of one's own: the list's block alone is another. -/
theorem OwnsI.turned {w : World} {lb c g : Nat} {l : List Int} (h : OwnsI w lb (some ⟨g, 0, none⟩) l c) (i : Nat) (v : Int) : OwnsI (w.setCell ⟨g, i, none⟩ (.int .i64 v)) lb (some ⟨g, 0, none⟩) (l.set i v) c := by
  obtain ⟨h0, ⟨h1, _⟩ | ⟨q, c', cur, h1, hg1, h2, h3, h4, h5, h6⟩⟩ := h
  · cases h1
  · cases h1
    refine ⟨by simp, .inr ⟨g, c, cur.setIfInBounds i (.int .i64 v), by simp, hg1, heap_put h2, by simpa using h3, h4, by simpa using h5, ?_⟩⟩
    simp only [List.length_set, Array.toList_setIfInBounds, List.map_set]
    rw [List.take_set, h6]
theorem OwnsI.num {w : World} {lb c : Nat} {a : Option Addr} {l : List Int} (h : OwnsI w lb a l c) (i : Nat) (hi : i < l.length) : ∃ g v, a = some ⟨g, 0, none⟩ ∧ lb ≤ g ∧ w.cell? ⟨g, i, none⟩ = some (.int .i64 v) ∧ w.frozen? ⟨g, i, none⟩ = false ∧ ∃ cur, w.heap[g]? = some (.cells cur 3 (0, 0)) := by
  have h' := h
  obtain ⟨_, ⟨h1, h2⟩ | ⟨q, c', cur, h1, hg1, h2, _⟩⟩ := h
  · exfalso; have : l.length = 0 := h2; omega
  · cases h1
    have := World.ownsRow.cellAt h' i (by omega)
    refine ⟨q, l[i], rfl, hg1, ?_, frozen_of_row _ _ i _ _ h2, cur, h2⟩
    rw [this]
    simp [hi]
theorem box_on {w w' : World} {g b : Nat} {T : TypeId} {cs cur : Array Value} (h : w.heap[b]? = some (.cells cs T (0, 0))) (hg : w.heap[g]? = some (.cells cur 3 (0, 0))) (hT : T ≠ 3) (on : Only g w w') : w'.heap[b]? = some (.cells cs T (0, 0)) := by
  rw [on.block b (fun e => by subst e; rw [h] at hg; simp at hg; exact hT hg.2)]
  exact h
theorem IsI.on {w w' : World} {g : Nat} {a : Option Addr} {l : List Int} (h : IsI w a l) (on : Only g w w') (hne : ∀ ad, a = some ad → ad.block ≠ g) : IsI w' a l := by
  obtain ⟨h1, h2 | ⟨b, off, e, hs, hc⟩⟩ := h
  · exact ⟨h1, .inl h2⟩
  · refine ⟨h1, .inr ⟨b, off, e, by rw [on.size]; exact hs, fun i hi => ?_⟩⟩
    rw [on.cell (p := ⟨b, off + i, none⟩) (hne ⟨b, off, none⟩ e)]; exact hc i hi
theorem IsI.lt {w : World} {a : Option Addr} {l : List Int} (h : IsI w a l) (hl : l ≠ []) : ∀ ad, a = some ad → ad.block < w.heap.size := by
  intro ad hd
  obtain ⟨_, h2 | ⟨b, off, e, hs, _⟩⟩ := h
  · exact absurd h2 hl
  · rw [e] at hd; cases hd; exact hs

/-- A list that is turned, in its box, beside a span and a list that stays. -/
structure Bk (w W : World) (sb b g : Nat) (p c s : Int) (f : Nat → Bool) (xb B : Nat) (ax : Option Addr) (cx : Nat) (mx l : List Int) (a2 : Option Addr) : Prop where
  sp : Spn w W sb b g p c s f
  box : W.heap[xb]? = some (.cells (dcells p c s ax l.length cx) 33 (0, 0))
  own : OwnsI W B ax mx cx
  ge : w.heap.size ≤ B
  len : mx.length = l.length
  live : IsI W a2 l
  ns : ∀ ad, ax = some ad → ad.block ≠ sb ∧ ad.block ≠ b ∧ ad.block ≠ g
  nl : l = [] ∨ ∀ ad ad2, ax = some ad → a2 = some ad2 → ad2.block ≠ ad.block
theorem Bk.turn {w W : World} {sb b g : Nat} {p c s : Int} {f : Nat → Bool} {xb B gx : Nat} {cx : Nat} {mx l : List Int} {a2 : Option Addr} (h : Bk w W sb b g p c s f xb B (some ⟨gx, 0, none⟩) cx mx l a2) (i : Nat) (hi : i < l.length) (v : Int) :
    Bk w (W.setCell ⟨gx, i, none⟩ (.int .i64 v)) sb b g p c s f xb B (some ⟨gx, 0, none⟩) cx (mx.set i v) l a2 := by
  obtain ⟨g', _, e, hB, _, _, cur, hg⟩ := h.own.num i (by rw [h.len]; exact hi)
  cases e
  have on := Only.set gx i (.int .i64 v) W
  obtain ⟨n1, n2, n3⟩ := h.ns _ rfl
  refine ⟨⟨h.sp.at'.beside on (fun e => n1 e.symm) (fun e => n2 e.symm) (fun e => n3 e.symm), h.sp.low.trans (on.below (Nat.le_trans h.ge hB)), h.sp.gs, h.sp.gb, h.sp.gg⟩, box_on h.box hg (by decide) on, h.own.turned i v, h.ge, by rw [List.length_set]; exact h.len, h.live.on on ?_, h.ns, h.nl⟩
  rcases h.nl with h0 | h0
  · rw [h0] at hi; simp at hi
  · exact fun ad hd => h0 _ ad rfl hd
/-- Of what fails. -/
theorem of_fail (p c s : Int) (a : Option Addr) (cap : Nat) (l : List Int) (x : Int) (w : World) (hT : Tabs w) (hI : IsI w a l) (hm : l.length ≤ maxLen) (hp : -9223372036854775808 ≤ p ∧ p ≤ 9223372036854775807) (h : (newE p c s = x ∧ x ≠ 0) ∨ (newE p c s = 0 ∧ okL (slN c) (-1) l = false ∧ x = 4)) :
    Calls Tryz.prog 61 #[.agg #[.int .i64 p, .int .i64 c, .int .i64 s, .slice a l.length cap]] w fun e w' => e = .returned (.tuple #[.pointer none, .int .i64 x]) ∧ Below w.heap.size w w' := by
  rcases h with ⟨h1, h2⟩ | ⟨h1, h2, rfl⟩
  · exact of_bad p c s a l.length cap w hT hp x h1 h2
  · exact of_form p c s a cap l w hT hI hm h1 h2
end Go.Proofs.YtbfamjnnlcopiaaGreatDoor
