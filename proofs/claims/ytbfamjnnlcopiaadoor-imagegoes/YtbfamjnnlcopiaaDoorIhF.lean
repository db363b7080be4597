/- Layer 17: Move of the document, its good arm. -/
import Derived.Test.YtbfamjnnlcopiaaDoorGuB
import Derived.Test.YtbfamjnnlcopiaaDoorGuC
namespace Go.Proofs.YtbfamjnnlcopiaaDoor
open Go.RowKit
set_option linter.unusedVariables false
set_option maxRecDepth 4000

/-- The row of one span that Copy has made. -/
structure Sp1 (E W : World) (p c s : Int) (live : List Int) (gA : Nat) (la2 : Option Addr) (lc2 : Nat) : Prop where
  ge : E.heap.size ≤ gA
  lt : gA < W.heap.size
  j : W.cell? ⟨gA, 0, none⟩ = some (.int .i64 p) ∧ W.cell? ⟨gA, 1, none⟩ = some (.int .i64 c) ∧ W.cell? ⟨gA, 2, none⟩ = some (.int .i64 s) ∧ W.cell? ⟨gA, 3, none⟩ = some (.slice la2 live.length lc2)
  li : OwnsI W E.heap.size la2 live lc2
  lb : ∀ ad, la2 = some ad → E.heap.size ≤ ad.block ∧ ad.block < W.heap.size
theorem Sp1.keep {E W W' : World} {p c s : Int} {live : List Int} {gA : Nat} {la2 : Option Addr} {lc2 : Nat} (h : Sp1 E W p c s live gA la2 lc2) (b : Below W.heap.size W W') : Sp1 E W' p c s live gA la2 lc2 :=
  ⟨h.ge, Nat.lt_of_lt_of_le h.lt b.size, ⟨bcell b h.j.1, bcell b h.j.2.1, bcell b h.j.2.2.1, bcell b h.j.2.2.2⟩, OwnsI.keep h.li b, fun ad e => ⟨(h.lb ad e).1, Nat.lt_of_lt_of_le (h.lb ad e).2 b.size⟩⟩
theorem ownsI_tu {w w' : World} {base cap g : Nat} {a : Option Addr} {l : List Int} (h : OwnsI w base a l cap) (t : Tu (fun k => k = g) w w') (hne : ∀ ad, a = some ad → ¬ (ad.block = g)) : OwnsI w' base a l cap := by
  obtain ⟨q1, q2 | ⟨g', c', cur, r1, r2, r3, r4⟩⟩ := h
  · exact ⟨q1, .inl q2⟩
  · have e1 : a = some ⟨g', 0, none⟩ := by injection r1
    exact ⟨q1, .inr ⟨g', c', cur, r1, r2, t.block g' _ r3 (hne _ e1), r4⟩⟩
theorem Sp1.tu {E W W' : World} {p c s : Int} {live : List Int} {gA g : Nat} {la2 : Option Addr} {lc2 : Nat} (h : Sp1 E W p c s live gA la2 lc2) (t : Tu (fun k => k = g) W W') (n1 : ¬ (gA = g)) (n2 : ∀ ad, la2 = some ad → ¬ (ad.block = g)) (hv : ∀ x ∈ live, -9223372036854775808 ≤ x ∧ x ≤ 9223372036854775807) : Sp1 E W' p c s live gA la2 lc2 :=
  ⟨h.ge, Nat.lt_of_lt_of_le h.lt t.size, ⟨by rw [t.cell n1 h.lt]; exact h.j.1, by rw [t.cell n1 h.lt]; exact h.j.2.1, by rw [t.cell n1 h.lt]; exact h.j.2.2.1, by rw [t.cell n1 h.lt]; exact h.j.2.2.2⟩, ownsI_tu h.li t n2, fun ad e => ⟨(h.lb ad e).1, Nat.lt_of_lt_of_le (h.lb ad e).2 t.size⟩⟩
theorem sp1_of {E X w : World} {a' : Option Addr} {c' : Nat} {p c s : Int} {live : List Int} (h : Told w X.heap.size (.slice a' 1 c') [⟨p, c, s, live⟩]) (hE : E.heap.size ≤ X.heap.size) :
    ∃ gA la2 lc2, a' = some ⟨gA, 0, none⟩ ∧ Sp1 E w p c s live gA la2 lc2 ∧ X.heap.size ≤ gA ∧ (∀ ad, la2 = some ad → X.heap.size ≤ ad.block) := by
  obtain ⟨gA, la2, lc2, e, j0, j1, j2, j3, ol, gl, glt, ll⟩ := told_one h
  exact ⟨gA, la2, lc2, e, ⟨Nat.le_trans hE gl, glt, ⟨j0, j1, j2, j3⟩, OwnsI.mono ol hE, fun ad q => ⟨Nat.le_trans hE (ll ad q).1, (ll ad q).2⟩⟩, gl, fun ad q => (ll ad q).1⟩
/-- The empty row. -/
structure Em (E W : World) (g : Nat) : Prop where
  ge : E.heap.size ≤ g
  lt : g < W.heap.size
  own : OwnsI W E.heap.size (some ⟨g, 0, none⟩) [] 0
theorem Em.keep {E W W' : World} {g : Nat} (h : Em E W g) (b : Below W.heap.size W W') : Em E W' g := ⟨h.ge, Nat.lt_of_lt_of_le h.lt b.size, OwnsI.keep h.own b⟩
theorem Em.made {E W : World} (h : E.heap.size ≤ W.heap.size) : Em E (W.alloc (.cells #[] 3)) W.heap.size := ⟨h, by simp, ownsI_made W E.heap.size h⟩
/-- The box of the image that is made. -/
structure Bo (E W : World) (g : Nat) : Prop where
  ge : E.heap.size ≤ g
  row : W.heap[g]? = some (.cells (icells 0 0 0 none 0 0 0 none 0 0 none 0 0) 34 (0, 0))
theorem Bo.keep {E W W' : World} {g : Nat} (h : Bo E W g) (b : Below W.heap.size W W') : Bo E W' g := ⟨h.ge, by rw [b.block g (row_lt h.row)]; exact h.row⟩
theorem Bo.tu {E W W' : World} {g k : Nat} (h : Bo E W g) (t : Tu (fun i => i = k) W W') (n : ¬ (g = k)) : Bo E W' g := ⟨h.ge, t.block g _ h.row n⟩
/-- The image that is made, in its box. -/
structure MvP (E W : World) (g : Nat) (p c s base : Int) (la2 : Option Addr) (lc2 : Nat) (a9 : Option Addr) (c9 : Nat) (b2 : Option Addr) (c12 : Nat) (live offs bytes : List Int) : Prop where
  ge : E.heap.size ≤ g
  row : W.heap[g]? = some (.cells (icells p c s la2 live.length lc2 base a9 offs.length c9 b2 bytes.length c12) 34 (0, 0))
  li : FarI E W g la2 live
  oi : FarI E W g a9 offs
  bi : FarB E W g b2 bytes
  low : Below E.heap.size E W
theorem MvP.keep {E W W' : World} {g : Nat} {p c s base : Int} {la2 : Option Addr} {lc2 : Nat} {a9 : Option Addr} {c9 : Nat} {b2 : Option Addr} {c12 : Nat} {live offs bytes : List Int} (h : MvP E W g p c s base la2 lc2 a9 c9 b2 c12 live offs bytes) (b : Below W.heap.size W W') : MvP E W' g p c s base la2 lc2 a9 c9 b2 c12 live offs bytes :=
  ⟨h.ge, by rw [b.block g (row_lt h.row)]; exact h.row, h.li.keep b, h.oi.keep b, h.bi.keep b, h.low.trans (b.mono h.low.size)⟩
theorem mvP_lay {E W : World} {g gA g12 : Nat} {p c s : Int} {la2 : Option Addr} {lc2 : Nat} {a9 : Option Addr} {c9 : Nat} {c12 : Nat} {live offs bytes : List Int} (hl : Below E.heap.size E W) (h3 : Sp1 E W p c s live gA la2 lc2) (h14 : Bo E W g) (h9 : OwnsI W E.heap.size a9 offs c9) (h12 : OwnsB W E.heap.size (some ⟨g12, 0, none⟩) bytes c12) (hn : ¬ (gA = g)) (hv : ∀ x ∈ live, -9223372036854775808 ≤ x ∧ x ≤ 9223372036854775807) (ho : ∀ x ∈ offs, -9223372036854775808 ≤ x ∧ x ≤ 9223372036854775807) (hb : AllB bytes) :
    MvP E (lay7 W g (.int .i64 p) (.int .i64 c) (.int .i64 s) (.slice la2 live.length lc2) (.int .i64 0) (.slice a9 offs.length c9) (.slice (some ⟨g12, 0, none⟩) bytes.length c12)) g p c s 0 la2 lc2 a9 c9 (some ⟨g12, 0, none⟩) c12 live offs bytes ∧ ((lay7 W g (.int .i64 p) (.int .i64 c) (.int .i64 s) (.slice la2 live.length lc2) (.int .i64 0) (.slice a9 offs.length c9) (.slice (some ⟨g12, 0, none⟩) bytes.length c12)).cell? ⟨gA, 0, none⟩ = some (.int .i64 p) ∧ (lay7 W g (.int .i64 p) (.int .i64 c) (.int .i64 s) (.slice la2 live.length lc2) (.int .i64 0) (.slice a9 offs.length c9) (.slice (some ⟨g12, 0, none⟩) bytes.length c12)).cell? ⟨gA, 1, none⟩ = some (.int .i64 c) ∧ (lay7 W g (.int .i64 p) (.int .i64 c) (.int .i64 s) (.slice la2 live.length lc2) (.int .i64 0) (.slice a9 offs.length c9) (.slice (some ⟨g12, 0, none⟩) bytes.length c12)).cell? ⟨gA, 2, none⟩ = some (.int .i64 s) ∧ (lay7 W g (.int .i64 p) (.int .i64 c) (.int .i64 s) (.slice la2 live.length lc2) (.int .i64 0) (.slice a9 offs.length c9) (.slice (some ⟨g12, 0, none⟩) bytes.length c12)).cell? ⟨gA, 3, none⟩ = some (.slice la2 live.length lc2)) := by
  have on := lay7_only W g (.int .i64 p) (.int .i64 c) (.int .i64 s) (.slice la2 live.length lc2) (.int .i64 0) (.slice a9 offs.length c9) (.slice (some ⟨g12, 0, none⟩) bytes.length c12)
  have t3 : (34 : TypeId) ≠ 3 := by decide
  have t5 : (34 : TypeId) ≠ 5 := by decide
  refine ⟨⟨h14.ge, lay7_row h14.row, FarI.only ⟨ownsI_isI hv h3.li, fun ad e => ⟨ownsI_ge h3.li ad e, ownsI_ne h3.li h14.row t3 ad e⟩⟩ on, FarI.only ⟨ownsI_isI ho h9, fun ad e => ⟨ownsI_ge h9 ad e, ownsI_ne h9 h14.row t3 ad e⟩⟩ on, FarB.only ⟨ownsB_isB hb h12, fun ad e => ⟨ownsB_ge h12 ad e, ownsB_ne h12 h14.row t5 ad e⟩⟩ on, hl.trans (on.below h14.ge)⟩, ?_⟩
  obtain ⟨j0, j1, j2, j3⟩ := h3.j
  exact ⟨by rw [on.cell (p := ⟨gA, 0, none⟩) hn]; exact j0, by rw [on.cell (p := ⟨gA, 1, none⟩) hn]; exact j1, by rw [on.cell (p := ⟨gA, 2, none⟩) hn]; exact j2, by rw [on.cell (p := ⟨gA, 3, none⟩) hn]; exact j3⟩

/-! The operations of ref.go:125, whose order the model draws. -/
def ihf0 : Oper := { dst := some 27, op := Op.fieldAddr 34 (Operand.tmp 3) 0, type := 0, pos := "ref.go:125", after := #[], guard := none }
def ihf1 : Oper := { dst := some 28, op := Op.load 24 (Operand.tmp 27), type := 24, pos := "ref.go:125", after := #[{ on := 0, ground := Ground.data }], guard := none }
def ihf2 : Oper := { dst := some 29, op := Op.buildSlice 50 1 #[(0, Operand.tmp 28)], type := 50, pos := "ref.go:125", after := #[{ on := 1, ground := Ground.data }], guard := none }
def ihf3 : Oper := { dst := some 30, op := Op.call { callee := Callee.value (Operand.func 20), args := #[Operand.tmp 29], argTypes := #[50] }, type := 50, pos := "ref.go:125", after := #[{ on := 2, ground := Ground.data }], guard := none }
def ihf4 : Oper := { dst := some 31, op := Op.indexAddr 50 (Operand.tmp 30) (Operand.const (Value.int IntKind.i64 0)), type := 0, pos := "ref.go:125", after := #[{ on := 3, ground := Ground.data }], guard := none }
def ihf5 : Oper := { dst := some 32, op := Op.load 24 (Operand.tmp 31), type := 24, pos := "ref.go:125", after := #[{ on := 4, ground := Ground.data }], guard := none }
def ihf6 : Oper := { dst := some 33, op := Op.buildSlice 22 0 #[], type := 22, pos := "ref.go:125", after := #[], guard := none }
def ihf7 : Oper := { dst := some 34, op := Op.fieldAddr 34 (Operand.tmp 3) 2, type := 0, pos := "ref.go:125", after := #[], guard := none }
def ihf8 : Oper := { dst := some 35, op := Op.load 22 (Operand.tmp 34), type := 22, pos := "ref.go:125", after := #[{ on := 7, ground := Ground.data }], guard := none }
def ihf9 : Oper := { dst := some 36, op := Op.call { callee := Callee.builtin Builtin.append, args := #[Operand.tmp 33, Operand.tmp 35], argTypes := #[22, 22] }, type := 22, pos := "ref.go:125", after := #[{ on := 6, ground := Ground.data }, { on := 8, ground := Ground.data }, { on := 3, ground := Ground.chain }], guard := none }
def ihf10 : Oper := { dst := some 37, op := Op.fieldAddr 34 (Operand.tmp 3) 3, type := 0, pos := "ref.go:125", after := #[], guard := none }
def ihf11 : Oper := { dst := some 38, op := Op.load 25 (Operand.tmp 37), type := 25, pos := "ref.go:125", after := #[{ on := 10, ground := Ground.data }], guard := none }
def ihf12 : Oper := { dst := some 39, op := Op.call { callee := Callee.value (Operand.func 21), args := #[Operand.tmp 38], argTypes := #[25] }, type := 25, pos := "ref.go:125", after := #[{ on := 11, ground := Ground.data }, { on := 9, ground := Ground.chain }], guard := none }
def ihf13 : Oper := { dst := some 40, op := Op.build 34 #[(0, Operand.tmp 32), (2, Operand.tmp 36), (3, Operand.tmp 39)], type := 34, pos := "ref.go:125", after := #[{ on := 5, ground := Ground.data }, { on := 9, ground := Ground.data }, { on := 12, ground := Ground.data }], guard := none }
def ihf14 : Oper := { dst := some 8, op := Op.alloc 34, type := 0, pos := "ref.go:125", after := #[], guard := none }
def ihf15 : Oper := { dst := none, op := Op.store 34 (Operand.tmp 8) (Operand.tmp 40), type := 0, pos := "ref.go:125", after := #[{ on := 14, ground := Ground.data }, { on := 13, ground := Ground.data }, { on := 12, ground := Ground.chain }, { on := 0, ground := Ground.phase }, { on := 1, ground := Ground.phase }, { on := 2, ground := Ground.phase }, { on := 3, ground := Ground.phase }, { on := 4, ground := Ground.phase }, { on := 5, ground := Ground.phase }, { on := 6, ground := Ground.phase }, { on := 7, ground := Ground.phase }, { on := 8, ground := Ground.phase }, { on := 9, ground := Ground.phase }, { on := 10, ground := Ground.phase }, { on := 11, ground := Ground.phase }, { on := 12, ground := Ground.phase }, { on := 13, ground := Ground.phase }, { on := 14, ground := Ground.phase }], guard := none }

set_option maxRecDepth 20000 in
set_option maxHeartbeats 8000000 in
theorem dmove_good (p c s base : Int) (la oa ba : Option Addr) (lc oc bc : Nat) (live offs bytes : List Int) (t n : Int) (w : World) (hR : rightG ⟨p, c, s, live, base, offs, bytes⟩ = true)
    (hL : IsI w la live) (hO : IsI w oa offs) (hml : live.length ≤ maxLen) (hmo : offs.length ≤ maxLen) (hmb : bytes.length ≤ maxLen) (hB : IsB w ba bytes) (hlv : live.length ≤ 17592186044416) (hof : offs.length ≤ 17592186044416) (hby : bytes.length ≤ 140737488355328) (hbc : bytes.length ≤ bc) (hA : goesA t n) :
    Calls Tryd.prog 8 #[.agg #[.int .i64 p, .int .i64 c, .int .i64 s, .slice la live.length lc, .int .i64 base, .slice oa offs.length oc, .slice ba bytes.length bc], .int .i64 t, .int .i64 n] w (MoveD w ⟨p, c, s, live, base, offs, bytes⟩ t n) := by
  obtain ⟨D, hD, zD, rD, bD⟩ := ibox 34 w p c s la live.length lc base oa offs.length oc ba bytes.length bc
  have HD : Hid (w.alloc (.cells #[.int .i64 p, .int .i64 c, .int .i64 s, .slice la live.length lc, .int .i64 base, .slice oa offs.length oc, .slice ba bytes.length bc] 34) = D) := hD
  obtain ⟨E, hE, zE, rE, bE⟩ := ibox 34 D 0 0 0 none 0 0 0 none 0 0 none 0 0
  have HE : Hid (D.alloc (.cells #[.int .i64 0, .int .i64 0, .int .i64 0, .slice none 0 0, .int .i64 0, .slice none 0 0, .slice none 0 0] 34) = E) := hE
  rw [zD] at rE zE
  have BE : Hid (Below w.heap.size w E) := bD.trans (bE.mono (by omega))
  have RE : Hid (E.heap[w.heap.size + 1]? = some (.cells (icells 0 0 0 none 0 0 0 none 0 0 none 0 0) 34 (0, 0))) := rE
  have ZE : Hid (E.heap.size = w.heap.size + 1 + 1) := zE
  have LE : Hid (IsI E la live) := hL.keep BE.out
  have OE : Hid (IsI E oa offs) := hO.keep BE.out
  have CE : Hid (Ic E w.heap.size p c s la live.length lc base oa offs.length oc ba bytes.length bc) := (icell rD).keep bE
  obtain ⟨c0, c1, c2, c3, c4, c5, c6⟩ := (icell rD).keep bE
  have HML : Hid (live.length ≤ maxLen) := hml
  have HMO : Hid (offs.length ≤ maxLen) := hmo
  have HMB : Hid (bytes.length ≤ maxLen) := hmb
  have H : Hid (rightG ⟨p, c, s, live, base, offs, bytes⟩ = true) := hR
  have BBE : Hid (IsB E ba bytes) := hB.keep BE.out
  have HLV : Hid (live.length ≤ 17592186044416) := hlv
  have HOF : Hid (offs.length ≤ 17592186044416) := hof
  have HBY : Hid (bytes.length ≤ 140737488355328) := hby
  have HBC : Hid (bytes.length ≤ bc) := hbc
  have HG : Hid (decide (goodR t) = true) := decide_eq_true hA.1
  have n0 : 0 ≤ n := hA.2.1
  have n1 : n ≤ 1048576 := hA.2.2
  have HA : Hid (goesA t n) := hA
  clear hB hlv hof hby hbc hA
  clear hD zD rD bD hL hO hml hmo hmb hR hE zE rE bE
  go_enter Tryd.func8, Tryd.ntmps8
  go_upto_region 1 with (fail)
  rw [HD.out, HE.out]
  go_wp2_with fail
  refine (dright_any p c s base la oa ba _ lc _ oc _ bc live offs bytes true _ rfl rfl rfl H.out LE.out OE.out HML.out HMO.out HMB.out).mono ?_
  rintro e w1 ⟨rfl, b1⟩
  have B1 : Hid (Below w.heap.size w w1) := BE.out.trans (b1.mono BE.out.size)
  have BE1 : Hid (Below E.heap.size E w1) := b1
  have RES : Hid (w1.heap[w.heap.size + 1]? = some (.cells (icells 0 0 0 none 0 0 0 none 0 0 none 0 0) 34 (0, 0))) := by show _ = _; rw [b1.block (w.heap.size + 1) (by have := ZE.out; omega)]; exact RE.out
  clear b1 c0 c1 c2 c3 c4 c5 c6
  have IL : Hid (IsI w1 la live) := LE.out.keep BE1.out
  have IO : Hid (IsI w1 oa offs) := OE.out.keep BE1.out
  have IB : Hid (IsB w1 ba bytes) := BBE.out.keep BE1.out
  have VI : Hid (∀ x ∈ live, -9223372036854775808 ≤ x ∧ x ≤ 9223372036854775807) := IL.out.1
  have VO : Hid (∀ x ∈ offs, -9223372036854775808 ≤ x ∧ x ≤ 9223372036854775807) := IO.out.1
  have AY : Hid (AllB bytes) := IB.out.1
  have LM : Hid (live.length ≤ maxLen) := HML.out
  have NK : Hid (∀ wz, Below w1.heap.size w1 wz → wz.cell? ⟨w.heap.size, 0, none⟩ = some (.int .i64 p) ∧ wz.cell? ⟨w.heap.size, 1, none⟩ = some (.int .i64 c) ∧ wz.cell? ⟨w.heap.size, 2, none⟩ = some (.int .i64 s) ∧ wz.cell? ⟨w.heap.size, 3, none⟩ = some (.slice la live.length lc) ∧ wz.cell? ⟨w.heap.size, 4, none⟩ = some (.int .i64 base) ∧ wz.cell? ⟨w.heap.size, 5, none⟩ = some (.slice oa offs.length oc) ∧ wz.cell? ⟨w.heap.size, 6, none⟩ = some (.slice ba bytes.length bc)) := fun wz b => by
    obtain ⟨j0, j1, j2, j3, j4, j5, j6⟩ := (CE.out.keep BE1.out).keep b
    exact ⟨j0, j1, j2, j3, j4, j5, j6⟩
  obtain ⟨X0, hX0⟩ : ∃ X0, w1.drew = X0 := ⟨_, rfl⟩
  have BX0 : Hid (Below w1.heap.size w1 X0) := by show Below _ _ _; rw [← hX0]; exact Below.toDrew (Below.refl _ _)
  have HX0 : Hid (w1.drew = X0) := hX0
  clear hX0
  go_upto_region 5 with (go_at_call 23; refine (rgood_of t true _ HG.out).mono ?_; rintro e w3 ⟨rfl, rfl⟩)
  go_cut [8] from 27 to 40 (fun v wx => ∃ g la2 lc2 a9 c9 b2 c12, v = .pointer (some ⟨g, 0, none⟩) ∧ MvP w1 wx g p c s 0 la2 lc2 a9 c9 b2 c12 live offs bytes)
  case first =>
    refine wp_region_held_drew (S := (fun wz => wz.cell? ⟨w.heap.size, 0, none⟩ = some (.int .i64 p) ∧ wz.cell? ⟨w.heap.size, 1, none⟩ = some (.int .i64 c) ∧ wz.cell? ⟨w.heap.size, 2, none⟩ = some (.int .i64 s) ∧ wz.cell? ⟨w.heap.size, 3, none⟩ = some (.slice la live.length lc) ∧ wz.cell? ⟨w.heap.size, 4, none⟩ = some (.int .i64 base) ∧ wz.cell? ⟨w.heap.size, 5, none⟩ = some (.slice oa offs.length oc) ∧ wz.cell? ⟨w.heap.size, 6, none⟩ = some (.slice ba bytes.length bc))) (by kernel_rfl) (by rw [HX0.out]; exact NK.out _ BX0.out) (fun _ => ?_)
    rw [HX0.out]
    refine wpAnyH_take (i := 0) (oi := ihf0) (v := .pointer (some ⟨w.heap.size, 0, none⟩)) rfl (by kernel_rfl) (by kernel_rfl) (by kernel_rfl) (fun _ _ _ h => h) (.inl ⟨rfl, by intro wz hz; obtain ⟨q0, q1, q2, q3, q4, q5, q6⟩ := hz; unfold ihf0; go_simp⟩) (NK.out _ BX0.out) ?_
    simp only [ihf0, Act.put, List.setIfInBounds_toArray, List.set_cons_succ, List.set_cons_zero]
    refine wpAnyH_take (i := 1) (oi := ihf1) (v := .agg #[.int .i64 p, .int .i64 c, .int .i64 s, .slice la live.length lc]) rfl (by kernel_rfl) (by kernel_rfl) (by kernel_rfl) (fun _ _ _ h => h) (.inl ⟨rfl, by intro wz hz; obtain ⟨q0, q1, q2, q3, q4, q5, q6⟩ := hz; unfold ihf1; go_simp⟩) (NK.out _ BX0.out) ?_
    simp only [ihf1, Act.put, List.setIfInBounds_toArray, List.set_cons_succ, List.set_cons_zero]
    refine wpAnyH_take (i := 7) (oi := ihf7) (v := .pointer (some ⟨w.heap.size, 5, none⟩)) rfl (by kernel_rfl) (by kernel_rfl) (by kernel_rfl) (fun _ _ _ h => h) (.inl ⟨rfl, by intro wz hz; obtain ⟨q0, q1, q2, q3, q4, q5, q6⟩ := hz; unfold ihf7; go_simp⟩) (NK.out _ BX0.out) ?_
    simp only [ihf7, Act.put, List.setIfInBounds_toArray, List.set_cons_succ, List.set_cons_zero]
    refine wpAnyH_take (i := 8) (oi := ihf8) (v := .slice oa offs.length oc) rfl (by kernel_rfl) (by kernel_rfl) (by kernel_rfl) (fun _ _ _ h => h) (.inl ⟨rfl, by intro wz hz; obtain ⟨q0, q1, q2, q3, q4, q5, q6⟩ := hz; unfold ihf8; go_simp⟩) (NK.out _ BX0.out) ?_
    simp only [ihf8, Act.put, List.setIfInBounds_toArray, List.set_cons_succ, List.set_cons_zero]
    refine wpAnyH_take (i := 10) (oi := ihf10) (v := .pointer (some ⟨w.heap.size, 6, none⟩)) rfl (by kernel_rfl) (by kernel_rfl) (by kernel_rfl) (fun _ _ _ h => h) (.inl ⟨rfl, by intro wz hz; obtain ⟨q0, q1, q2, q3, q4, q5, q6⟩ := hz; unfold ihf10; go_simp⟩) (NK.out _ BX0.out) ?_
    simp only [ihf10, Act.put, List.setIfInBounds_toArray, List.set_cons_succ, List.set_cons_zero]
    refine wpAnyH_take (i := 11) (oi := ihf11) (v := .slice ba bytes.length bc) rfl (by kernel_rfl) (by kernel_rfl) (by kernel_rfl) (fun _ _ _ h => h) (.inl ⟨rfl, by intro wz hz; obtain ⟨q0, q1, q2, q3, q4, q5, q6⟩ := hz; unfold ihf11; go_simp⟩) (NK.out _ BX0.out) ?_
    simp only [ihf11, Act.put, List.setIfInBounds_toArray, List.set_cons_succ, List.set_cons_zero]
    refine wpAnyH_ready (rs := [2, 6, 14]) (by kernel_rfl) (by simp) ?_
    refine AllReadyH.cons (o := ihf2) rfl (fun K hK => ?_) (AllReadyH.cons (o := ihf6) rfl (fun K hK => ?_) (AllReadyH.cons (o := ihf14) rfl (fun K hK => ?_) AllReadyH.nil))
    · obtain ⟨X1, hX1, zX1, rX1, bX1⟩ := dbox X0 p c s la live.length lc
      have BX1 : Hid (Below w1.heap.size w1 X1) := BX0.out.trans (bX1.mono BX0.out.size)
      have R2 : Hid (RdT X1 (some ⟨X0.heap.size, 0, none⟩) [⟨p, c, s, live⟩]) := rdT_one (dcell0 rX1) (dcell1 rX1) (dcell2 rX1) (dcell3 rX1) (IL.out.keep BX1.out) LM.out
      unfold ihf2
      go_simp
      try rw [hX1]
      refine hK.out _ _ (NK.out _ BX1.out) (fun _ => ?_)
      clear hK K
      try simp only [ihf2, Act.put, List.setIfInBounds_toArray, List.set_cons_succ, List.set_cons_zero]
      clear hX1 zX1 rX1 bX1
      refine wpAnyH_ready (rs := [3, 6, 14]) (by kernel_rfl) (by simp) ?_
      refine AllReadyH.cons (o := ihf3) rfl (fun K hK => ?_) (AllReadyH.cons (o := ihf6) rfl (fun K hK => ?_) (AllReadyH.cons (o := ihf14) rfl (fun K hK => ?_) AllReadyH.nil))
      · unfold ihf3
        go_simp
        refine (rcopy_any (some ⟨X0.heap.size, 0, none⟩) 1 1 [⟨p, c, s, live⟩] X1 R2.out rfl (by omega) (fun t ht => by simp at ht; subst ht; exact HLV.out)).mono ?_
        rintro e X2 ⟨a3, c3, rfl, t3, bX2⟩
        obtain ⟨gA, la2, lc2, rfl, jj⟩ := sp1_of t3 BX1.out.size
        go_wp2_with fail
        have BX2 : Hid (Below w1.heap.size w1 X2) := BX1.out.trans (bX2.mono BX1.out.size)
        have S3 : Hid (Sp1 w1 X2 p c s live gA la2 lc2) := jj.1
        refine hK.out _ _ (NK.out _ BX2.out) (fun _ => ?_)
        clear hK K
        try simp only [ihf3, Act.put, List.setIfInBounds_toArray, List.set_cons_succ, List.set_cons_zero]
        clear jj t3 bX2
        refine wpAnyH_strong (S2 := (fun wz => (wz.cell? ⟨w.heap.size, 0, none⟩ = some (.int .i64 p) ∧ wz.cell? ⟨w.heap.size, 1, none⟩ = some (.int .i64 c) ∧ wz.cell? ⟨w.heap.size, 2, none⟩ = some (.int .i64 s) ∧ wz.cell? ⟨w.heap.size, 3, none⟩ = some (.slice la live.length lc) ∧ wz.cell? ⟨w.heap.size, 4, none⟩ = some (.int .i64 base) ∧ wz.cell? ⟨w.heap.size, 5, none⟩ = some (.slice oa offs.length oc) ∧ wz.cell? ⟨w.heap.size, 6, none⟩ = some (.slice ba bytes.length bc)) ∧ (wz.cell? ⟨gA, 0, none⟩ = some (.int .i64 p) ∧ wz.cell? ⟨gA, 1, none⟩ = some (.int .i64 c) ∧ wz.cell? ⟨gA, 2, none⟩ = some (.int .i64 s) ∧ wz.cell? ⟨gA, 3, none⟩ = some (.slice la2 live.length lc2)))) (fun _ q => q.1) _ _ _ _ ?_
        refine wpAnyH_take (i := 4) (oi := ihf4) (v := .pointer (some ⟨gA, 0, none⟩)) rfl (by kernel_rfl) (by kernel_rfl) (by kernel_rfl) (fun _ _ _ h => h) (.inl ⟨rfl, by intro wz hz; obtain ⟨⟨q0, q1, q2, q3, q4, q5, q6⟩, ⟨h0, h1, h2, h3⟩⟩ := hz; unfold ihf4; go_simp⟩) ⟨NK.out _ BX2.out, S3.out.j⟩ ?_
        simp only [ihf4, Act.put, List.setIfInBounds_toArray, List.set_cons_succ, List.set_cons_zero]
        refine wpAnyH_take (i := 5) (oi := ihf5) (v := .agg #[.int .i64 p, .int .i64 c, .int .i64 s, .slice la2 live.length lc2]) rfl (by kernel_rfl) (by kernel_rfl) (by kernel_rfl) (fun _ _ _ h => h) (.inl ⟨rfl, by intro wz hz; obtain ⟨⟨q0, q1, q2, q3, q4, q5, q6⟩, ⟨h0, h1, h2, h3⟩⟩ := hz; unfold ihf5; go_simp⟩) ⟨NK.out _ BX2.out, S3.out.j⟩ ?_
        simp only [ihf5, Act.put, List.setIfInBounds_toArray, List.set_cons_succ, List.set_cons_zero]
        refine wpAnyH_ready (rs := [6, 14]) (by kernel_rfl) (by simp) ?_
        refine AllReadyH.cons (o := ihf6) rfl (fun K hK => ?_) (AllReadyH.cons (o := ihf14) rfl (fun K hK => ?_) AllReadyH.nil)
        · obtain ⟨X3, hX3⟩ : ∃ W, X2.alloc (.cells #[] 3) = W := ⟨_, rfl⟩
          have bX3 : Below X2.heap.size X2 X3 := by rw [← hX3]; exact (Below.refl _ _).alloc (Nat.le_refl _) _
          have BX3 : Hid (Below w1.heap.size w1 X3) := BX2.out.trans (bX3.mono BX2.out.size)
          have NG : Hid (¬ (gA = X2.heap.size)) := by show ¬ _; have := S3.out.lt; omega
          have NLA : Hid (∀ ad, la2 = some ad → ¬ (ad.block = X2.heap.size)) := fun ad e => by have := (S3.out.lb ad e).2; omega
          have S3 := Hid.mk' (S3.out.keep bX3)
          have E6 : Hid (Em w1 X3 X2.heap.size) := by show Em _ _ _; rw [← hX3]; exact Em.made BX2.out.size
          unfold ihf6
          go_simp
          try rw [hX3]
          refine hK.out _ _ ⟨NK.out _ BX3.out, S3.out.j⟩ (fun _ => ?_)
          clear hK K
          try simp only [ihf6, Act.put, List.setIfInBounds_toArray, List.set_cons_succ, List.set_cons_zero]
          clear hX3 bX3
          refine wpAnyH_ready (rs := [9, 14]) (by kernel_rfl) (by simp) ?_
          refine AllReadyH.cons (o := ihf9) rfl (fun K hK => ?_) (AllReadyH.cons (o := ihf14) rfl (fun K hK => ?_) AllReadyH.nil)
          · obtain ⟨a9, c9, X4, hrun, o9, tu⟩ := appAll_run w1.heap.size X3 BX3.out.size (X2.heap.size) E6.out.own oa offs offs.length oc rfl (IO.out.keep BX3.out) HOF.out
            have BX4 : Hid (Below w1.heap.size w1 X4) := BX3.out.trans (tu.below (fun i e => by rw [e]; exact E6.out.ge) BX3.out.size)
            have S3 := Hid.mk' (S3.out.tu tu NG.out NLA.out VI.out)
            have O9 : Hid (OwnsI X4 w1.heap.size a9 offs c9) := o9
            refine step_app rfl _ _ 22 rfl (.slice (some ⟨X2.heap.size, 0, none⟩) 0 0) (.slice oa offs.length oc) rfl rfl _ _ hrun ?_
            refine hK.out _ _ ⟨NK.out _ BX4.out, S3.out.j⟩ (fun _ => ?_)
            clear hK K
            try simp only [ihf9, Act.put, List.setIfInBounds_toArray, List.set_cons_succ, List.set_cons_zero]
            clear hrun o9 tu
            refine wpAnyH_ready (rs := [12, 14]) (by kernel_rfl) (by simp) ?_
            refine AllReadyH.cons (o := ihf12) rfl (fun K hK => ?_) (AllReadyH.cons (o := ihf14) rfl (fun K hK => ?_) AllReadyH.nil)
            · unfold ihf12
              go_simp
              refine (copy_any ba bc bytes.length bytes X4 rfl (IB.out.keep BX4.out) HBY.out).mono ?_
              rintro e X5 ⟨g12, c12, rfl, o12, bX5⟩
              go_wp2_with fail
              have BX5 : Hid (Below w1.heap.size w1 X5) := BX4.out.trans (bX5.mono BX4.out.size)
              have S3 := Hid.mk' (S3.out.keep bX5)
              have O9 := Hid.mk' (OwnsI.keep O9.out bX5)
              have Y12 : Hid (OwnsB X5 w1.heap.size (some ⟨g12, 0, none⟩) bytes c12) := OwnsB.mono o12 BX4.out.size
              refine hK.out _ _ ⟨NK.out _ BX5.out, S3.out.j⟩ (fun _ => ?_)
              clear hK K
              try simp only [ihf12, Act.put, List.setIfInBounds_toArray, List.set_cons_succ, List.set_cons_zero]
              clear o12 bX5
              refine wpAnyH_take (i := 13) (oi := ihf13) (v := .agg #[.int .i64 p, .int .i64 c, .int .i64 s, .slice la2 live.length lc2, .int .i64 0, .slice a9 offs.length c9, .slice (some ⟨g12, 0, none⟩) bytes.length c12]) rfl (by kernel_rfl) (by kernel_rfl) (by kernel_rfl) (fun _ _ _ h => h) (.inl ⟨rfl, by intro wz hz; obtain ⟨⟨q0, q1, q2, q3, q4, q5, q6⟩, ⟨h0, h1, h2, h3⟩⟩ := hz; unfold ihf13; go_simp⟩) ⟨NK.out _ BX5.out, S3.out.j⟩ ?_
              simp only [ihf13, Act.put, List.setIfInBounds_toArray, List.set_cons_succ, List.set_cons_zero]
              refine wpAnyH_ready (rs := [14]) (by kernel_rfl) (by simp) ?_
              refine AllReadyH.cons (o := ihf14) rfl (fun K hK => ?_) AllReadyH.nil
              obtain ⟨X6, hX6, zX6, rX6, bX6⟩ := ibox 34 X5 0 0 0 none 0 0 0 none 0 0 none 0 0
              have BX6 : Hid (Below w1.heap.size w1 X6) := BX5.out.trans (bX6.mono BX5.out.size)
              have NA : Hid (¬ (gA = X5.heap.size)) := by show ¬ _; have := S3.out.lt; omega
              have S3 := Hid.mk' (S3.out.keep bX6)
              have O9 := Hid.mk' (OwnsI.keep O9.out bX6)
              have Y12 := Hid.mk' (OwnsB.keep Y12.out bX6)
              have B14 : Hid (Bo w1 X6 X5.heap.size) := ⟨BX5.out.size, rX6⟩
              unfold ihf14
              go_simp
              try rw [hX6]
              refine hK.out _ _ ⟨NK.out _ BX6.out, S3.out.j⟩ (fun _ => ?_)
              clear hK K
              try simp only [ihf14, Act.put, List.setIfInBounds_toArray, List.set_cons_succ, List.set_cons_zero]
              clear hX6 zX6 rX6 bX6
              obtain ⟨m0, m1, m2, m3, m4, m5, m6⟩ := icell B14.out.row
              have f00 := ithawed B14.out.row 0
              have f01 := ithawed B14.out.row 1
              have f02 := ithawed B14.out.row 2
              have f03 := ithawed B14.out.row 3
              have f04 := ithawed B14.out.row 4
              have f05 := ithawed B14.out.row 5
              have f06 := ithawed B14.out.row 6
              obtain ⟨LW, hLW⟩ : ∃ LW, lay7 X6 (X5.heap.size) (.int .i64 p) (.int .i64 c) (.int .i64 s) (.slice la2 live.length lc2) (.int .i64 0) (.slice a9 offs.length c9) (.slice (some ⟨g12, 0, none⟩) bytes.length c12) = LW := ⟨_, rfl⟩
              have LV : Hid (LW = (((((((X6.setCell ⟨X5.heap.size, 0, none⟩ (.int .i64 p)).setCell ⟨X5.heap.size, 1, none⟩ (.int .i64 c)).setCell ⟨X5.heap.size, 2, none⟩ (.int .i64 s)).setCell ⟨X5.heap.size, 3, none⟩ (.slice la2 live.length lc2)).setCell ⟨X5.heap.size, 4, none⟩ (.int .i64 0)).setCell ⟨X5.heap.size, 5, none⟩ (.slice a9 offs.length c9)).setCell ⟨X5.heap.size, 6, none⟩ (.slice (some ⟨g12, 0, none⟩) bytes.length c12))) := by show _ = _; rw [← hLW]; rfl
              have PO : Hid (MvP w1 LW (X5.heap.size) p c s 0 la2 lc2 a9 c9 (some ⟨g12, 0, none⟩) c12 live offs bytes ∧ (LW.cell? ⟨gA, 0, none⟩ = some (.int .i64 p) ∧ LW.cell? ⟨gA, 1, none⟩ = some (.int .i64 c) ∧ LW.cell? ⟨gA, 2, none⟩ = some (.int .i64 s) ∧ LW.cell? ⟨gA, 3, none⟩ = some (.slice la2 live.length lc2))) := by show _ ∧ _; rw [← hLW]; exact mvP_lay BX6.out S3.out B14.out O9.out Y12.out NA.out VI.out VO.out AY.out
              clear hLW
              refine wpAnyH_ready (rs := [15]) (by kernel_rfl) (by simp) ?_
              refine AllReadyH.cons (o := ihf15) rfl (fun K hK => ?_) AllReadyH.nil
              unfold ihf15
              go_simp
              rw [← LV.out]
              refine hK.out _ _ ⟨NK.out _ PO.out.1.low, PO.out.2⟩ (fun _ => ?_)
              clear hK K
              try simp only [ihf15, Act.put, List.setIfInBounds_toArray, List.set_cons_succ, List.set_cons_zero]
              refine wpAnyH_done (by kernel_rfl) ?_ _
              go_wp2
              go_meet
              exact ⟨_, _, _, _, _, _, _, rfl, PO.out.1⟩
            · obtain ⟨X7, hX7, zX7, rX7, bX7⟩ := ibox 34 X4 0 0 0 none 0 0 0 none 0 0 none 0 0
              have BX7 : Hid (Below w1.heap.size w1 X7) := BX4.out.trans (bX7.mono BX4.out.size)
              have NA : Hid (¬ (gA = X4.heap.size)) := by show ¬ _; have := S3.out.lt; omega
              have S3 := Hid.mk' (S3.out.keep bX7)
              have O9 := Hid.mk' (OwnsI.keep O9.out bX7)
              have B14 : Hid (Bo w1 X7 X4.heap.size) := ⟨BX4.out.size, rX7⟩
              unfold ihf14
              go_simp
              try rw [hX7]
              refine hK.out _ _ ⟨NK.out _ BX7.out, S3.out.j⟩ (fun _ => ?_)
              clear hK K
              try simp only [ihf14, Act.put, List.setIfInBounds_toArray, List.set_cons_succ, List.set_cons_zero]
              clear hX7 zX7 rX7 bX7
              refine wpAnyH_ready (rs := [12]) (by kernel_rfl) (by simp) ?_
              refine AllReadyH.cons (o := ihf12) rfl (fun K hK => ?_) AllReadyH.nil
              unfold ihf12
              go_simp
              refine (copy_any ba bc bytes.length bytes X7 rfl (IB.out.keep BX7.out) HBY.out).mono ?_
              rintro e X8 ⟨g12, c12, rfl, o12, bX8⟩
              go_wp2_with fail
              have BX8 : Hid (Below w1.heap.size w1 X8) := BX7.out.trans (bX8.mono BX7.out.size)
              have S3 := Hid.mk' (S3.out.keep bX8)
              have B14 := Hid.mk' (B14.out.keep bX8)
              have O9 := Hid.mk' (OwnsI.keep O9.out bX8)
              have Y12 : Hid (OwnsB X8 w1.heap.size (some ⟨g12, 0, none⟩) bytes c12) := OwnsB.mono o12 BX7.out.size
              refine hK.out _ _ ⟨NK.out _ BX8.out, S3.out.j⟩ (fun _ => ?_)
              clear hK K
              try simp only [ihf12, Act.put, List.setIfInBounds_toArray, List.set_cons_succ, List.set_cons_zero]
              clear o12 bX8
              refine wpAnyH_take (i := 13) (oi := ihf13) (v := .agg #[.int .i64 p, .int .i64 c, .int .i64 s, .slice la2 live.length lc2, .int .i64 0, .slice a9 offs.length c9, .slice (some ⟨g12, 0, none⟩) bytes.length c12]) rfl (by kernel_rfl) (by kernel_rfl) (by kernel_rfl) (fun _ _ _ h => h) (.inl ⟨rfl, by intro wz hz; obtain ⟨⟨q0, q1, q2, q3, q4, q5, q6⟩, ⟨h0, h1, h2, h3⟩⟩ := hz; unfold ihf13; go_simp⟩) ⟨NK.out _ BX8.out, S3.out.j⟩ ?_
              simp only [ihf13, Act.put, List.setIfInBounds_toArray, List.set_cons_succ, List.set_cons_zero]
              obtain ⟨m0, m1, m2, m3, m4, m5, m6⟩ := icell B14.out.row
              have f00 := ithawed B14.out.row 0
              have f01 := ithawed B14.out.row 1
              have f02 := ithawed B14.out.row 2
              have f03 := ithawed B14.out.row 3
              have f04 := ithawed B14.out.row 4
              have f05 := ithawed B14.out.row 5
              have f06 := ithawed B14.out.row 6
              obtain ⟨LW, hLW⟩ : ∃ LW, lay7 X8 (X4.heap.size) (.int .i64 p) (.int .i64 c) (.int .i64 s) (.slice la2 live.length lc2) (.int .i64 0) (.slice a9 offs.length c9) (.slice (some ⟨g12, 0, none⟩) bytes.length c12) = LW := ⟨_, rfl⟩
              have LV : Hid (LW = (((((((X8.setCell ⟨X4.heap.size, 0, none⟩ (.int .i64 p)).setCell ⟨X4.heap.size, 1, none⟩ (.int .i64 c)).setCell ⟨X4.heap.size, 2, none⟩ (.int .i64 s)).setCell ⟨X4.heap.size, 3, none⟩ (.slice la2 live.length lc2)).setCell ⟨X4.heap.size, 4, none⟩ (.int .i64 0)).setCell ⟨X4.heap.size, 5, none⟩ (.slice a9 offs.length c9)).setCell ⟨X4.heap.size, 6, none⟩ (.slice (some ⟨g12, 0, none⟩) bytes.length c12))) := by show _ = _; rw [← hLW]; rfl
              have PO : Hid (MvP w1 LW (X4.heap.size) p c s 0 la2 lc2 a9 c9 (some ⟨g12, 0, none⟩) c12 live offs bytes ∧ (LW.cell? ⟨gA, 0, none⟩ = some (.int .i64 p) ∧ LW.cell? ⟨gA, 1, none⟩ = some (.int .i64 c) ∧ LW.cell? ⟨gA, 2, none⟩ = some (.int .i64 s) ∧ LW.cell? ⟨gA, 3, none⟩ = some (.slice la2 live.length lc2))) := by show _ ∧ _; rw [← hLW]; exact mvP_lay BX8.out S3.out B14.out O9.out Y12.out NA.out VI.out VO.out AY.out
              clear hLW
              refine wpAnyH_ready (rs := [15]) (by kernel_rfl) (by simp) ?_
              refine AllReadyH.cons (o := ihf15) rfl (fun K hK => ?_) AllReadyH.nil
              unfold ihf15
              go_simp
              rw [← LV.out]
              refine hK.out _ _ ⟨NK.out _ PO.out.1.low, PO.out.2⟩ (fun _ => ?_)
              clear hK K
              try simp only [ihf15, Act.put, List.setIfInBounds_toArray, List.set_cons_succ, List.set_cons_zero]
              refine wpAnyH_done (by kernel_rfl) ?_ _
              go_wp2
              go_meet
              exact ⟨_, _, _, _, _, _, _, rfl, PO.out.1⟩
          · obtain ⟨X9, hX9, zX9, rX9, bX9⟩ := ibox 34 X3 0 0 0 none 0 0 0 none 0 0 none 0 0
            have BX9 : Hid (Below w1.heap.size w1 X9) := BX3.out.trans (bX9.mono BX3.out.size)
            have NA : Hid (¬ (gA = X3.heap.size)) := by show ¬ _; have := S3.out.lt; omega
            have N6 : Hid (¬ (X3.heap.size = X2.heap.size)) := by show ¬ _; have := E6.out.lt; omega
            have S3 := Hid.mk' (S3.out.keep bX9)
            have E6 := Hid.mk' (E6.out.keep bX9)
            have B14 : Hid (Bo w1 X9 X3.heap.size) := ⟨BX3.out.size, rX9⟩
            unfold ihf14
            go_simp
            try rw [hX9]
            refine hK.out _ _ ⟨NK.out _ BX9.out, S3.out.j⟩ (fun _ => ?_)
            clear hK K
            try simp only [ihf14, Act.put, List.setIfInBounds_toArray, List.set_cons_succ, List.set_cons_zero]
            clear hX9 zX9 rX9 bX9
            refine wpAnyH_ready (rs := [9]) (by kernel_rfl) (by simp) ?_
            refine AllReadyH.cons (o := ihf9) rfl (fun K hK => ?_) AllReadyH.nil
            obtain ⟨a9, c9, X10, hrun, o9, tu⟩ := appAll_run w1.heap.size X9 BX9.out.size (X2.heap.size) E6.out.own oa offs offs.length oc rfl (IO.out.keep BX9.out) HOF.out
            have BX10 : Hid (Below w1.heap.size w1 X10) := BX9.out.trans (tu.below (fun i e => by rw [e]; exact E6.out.ge) BX9.out.size)
            have S3 := Hid.mk' (S3.out.tu tu NG.out NLA.out VI.out)
            have B14 := Hid.mk' (B14.out.tu tu N6.out)
            have O9 : Hid (OwnsI X10 w1.heap.size a9 offs c9) := o9
            refine step_app rfl _ _ 22 rfl (.slice (some ⟨X2.heap.size, 0, none⟩) 0 0) (.slice oa offs.length oc) rfl rfl _ _ hrun ?_
            refine hK.out _ _ ⟨NK.out _ BX10.out, S3.out.j⟩ (fun _ => ?_)
            clear hK K
            try simp only [ihf9, Act.put, List.setIfInBounds_toArray, List.set_cons_succ, List.set_cons_zero]
            clear hrun o9 tu
            refine wpAnyH_ready (rs := [12]) (by kernel_rfl) (by simp) ?_
            refine AllReadyH.cons (o := ihf12) rfl (fun K hK => ?_) AllReadyH.nil
            unfold ihf12
            go_simp
            refine (copy_any ba bc bytes.length bytes X10 rfl (IB.out.keep BX10.out) HBY.out).mono ?_
            rintro e X11 ⟨g12, c12, rfl, o12, bX11⟩
            go_wp2_with fail
            have BX11 : Hid (Below w1.heap.size w1 X11) := BX10.out.trans (bX11.mono BX10.out.size)
            have S3 := Hid.mk' (S3.out.keep bX11)
            have B14 := Hid.mk' (B14.out.keep bX11)
            have O9 := Hid.mk' (OwnsI.keep O9.out bX11)
            have Y12 : Hid (OwnsB X11 w1.heap.size (some ⟨g12, 0, none⟩) bytes c12) := OwnsB.mono o12 BX10.out.size
            refine hK.out _ _ ⟨NK.out _ BX11.out, S3.out.j⟩ (fun _ => ?_)
            clear hK K
            try simp only [ihf12, Act.put, List.setIfInBounds_toArray, List.set_cons_succ, List.set_cons_zero]
            clear o12 bX11
            refine wpAnyH_take (i := 13) (oi := ihf13) (v := .agg #[.int .i64 p, .int .i64 c, .int .i64 s, .slice la2 live.length lc2, .int .i64 0, .slice a9 offs.length c9, .slice (some ⟨g12, 0, none⟩) bytes.length c12]) rfl (by kernel_rfl) (by kernel_rfl) (by kernel_rfl) (fun _ _ _ h => h) (.inl ⟨rfl, by intro wz hz; obtain ⟨⟨q0, q1, q2, q3, q4, q5, q6⟩, ⟨h0, h1, h2, h3⟩⟩ := hz; unfold ihf13; go_simp⟩) ⟨NK.out _ BX11.out, S3.out.j⟩ ?_
            simp only [ihf13, Act.put, List.setIfInBounds_toArray, List.set_cons_succ, List.set_cons_zero]
            obtain ⟨m0, m1, m2, m3, m4, m5, m6⟩ := icell B14.out.row
            have f00 := ithawed B14.out.row 0
            have f01 := ithawed B14.out.row 1
            have f02 := ithawed B14.out.row 2
            have f03 := ithawed B14.out.row 3
            have f04 := ithawed B14.out.row 4
            have f05 := ithawed B14.out.row 5
            have f06 := ithawed B14.out.row 6
            obtain ⟨LW, hLW⟩ : ∃ LW, lay7 X11 (X3.heap.size) (.int .i64 p) (.int .i64 c) (.int .i64 s) (.slice la2 live.length lc2) (.int .i64 0) (.slice a9 offs.length c9) (.slice (some ⟨g12, 0, none⟩) bytes.length c12) = LW := ⟨_, rfl⟩
            have LV : Hid (LW = (((((((X11.setCell ⟨X3.heap.size, 0, none⟩ (.int .i64 p)).setCell ⟨X3.heap.size, 1, none⟩ (.int .i64 c)).setCell ⟨X3.heap.size, 2, none⟩ (.int .i64 s)).setCell ⟨X3.heap.size, 3, none⟩ (.slice la2 live.length lc2)).setCell ⟨X3.heap.size, 4, none⟩ (.int .i64 0)).setCell ⟨X3.heap.size, 5, none⟩ (.slice a9 offs.length c9)).setCell ⟨X3.heap.size, 6, none⟩ (.slice (some ⟨g12, 0, none⟩) bytes.length c12))) := by show _ = _; rw [← hLW]; rfl
            have PO : Hid (MvP w1 LW (X3.heap.size) p c s 0 la2 lc2 a9 c9 (some ⟨g12, 0, none⟩) c12 live offs bytes ∧ (LW.cell? ⟨gA, 0, none⟩ = some (.int .i64 p) ∧ LW.cell? ⟨gA, 1, none⟩ = some (.int .i64 c) ∧ LW.cell? ⟨gA, 2, none⟩ = some (.int .i64 s) ∧ LW.cell? ⟨gA, 3, none⟩ = some (.slice la2 live.length lc2))) := by show _ ∧ _; rw [← hLW]; exact mvP_lay BX11.out S3.out B14.out O9.out Y12.out NA.out VI.out VO.out AY.out
            clear hLW
            refine wpAnyH_ready (rs := [15]) (by kernel_rfl) (by simp) ?_
            refine AllReadyH.cons (o := ihf15) rfl (fun K hK => ?_) AllReadyH.nil
            unfold ihf15
            go_simp
            rw [← LV.out]
            refine hK.out _ _ ⟨NK.out _ PO.out.1.low, PO.out.2⟩ (fun _ => ?_)
            clear hK K
            try simp only [ihf15, Act.put, List.setIfInBounds_toArray, List.set_cons_succ, List.set_cons_zero]
            refine wpAnyH_done (by kernel_rfl) ?_ _
            go_wp2
            go_meet
            exact ⟨_, _, _, _, _, _, _, rfl, PO.out.1⟩
        · obtain ⟨X12, hX12, zX12, rX12, bX12⟩ := ibox 34 X2 0 0 0 none 0 0 0 none 0 0 none 0 0
          have BX12 : Hid (Below w1.heap.size w1 X12) := BX2.out.trans (bX12.mono BX2.out.size)
          have NA : Hid (¬ (gA = X2.heap.size)) := by show ¬ _; have := S3.out.lt; omega
          have S3 := Hid.mk' (S3.out.keep bX12)
          have B14 : Hid (Bo w1 X12 X2.heap.size) := ⟨BX2.out.size, rX12⟩
          unfold ihf14
          go_simp
          try rw [hX12]
          refine hK.out _ _ ⟨NK.out _ BX12.out, S3.out.j⟩ (fun _ => ?_)
          clear hK K
          try simp only [ihf14, Act.put, List.setIfInBounds_toArray, List.set_cons_succ, List.set_cons_zero]
          clear hX12 zX12 rX12 bX12
          refine wpAnyH_ready (rs := [6]) (by kernel_rfl) (by simp) ?_
          refine AllReadyH.cons (o := ihf6) rfl (fun K hK => ?_) AllReadyH.nil
          obtain ⟨X13, hX13⟩ : ∃ W, X12.alloc (.cells #[] 3) = W := ⟨_, rfl⟩
          have bX13 : Below X12.heap.size X12 X13 := by rw [← hX13]; exact (Below.refl _ _).alloc (Nat.le_refl _) _
          have BX13 : Hid (Below w1.heap.size w1 X13) := BX12.out.trans (bX13.mono BX12.out.size)
          have NG : Hid (¬ (gA = X12.heap.size)) := by show ¬ _; have := S3.out.lt; omega
          have NLA : Hid (∀ ad, la2 = some ad → ¬ (ad.block = X12.heap.size)) := fun ad e => by have := (S3.out.lb ad e).2; omega
          have N6 : Hid (¬ (X2.heap.size = X12.heap.size)) := by show ¬ _; have := row_lt B14.out.row; omega
          have S3 := Hid.mk' (S3.out.keep bX13)
          have B14 := Hid.mk' (B14.out.keep bX13)
          have E6 : Hid (Em w1 X13 X12.heap.size) := by show Em _ _ _; rw [← hX13]; exact Em.made BX12.out.size
          unfold ihf6
          go_simp
          try rw [hX13]
          refine hK.out _ _ ⟨NK.out _ BX13.out, S3.out.j⟩ (fun _ => ?_)
          clear hK K
          try simp only [ihf6, Act.put, List.setIfInBounds_toArray, List.set_cons_succ, List.set_cons_zero]
          clear hX13 bX13
          refine wpAnyH_ready (rs := [9]) (by kernel_rfl) (by simp) ?_
          refine AllReadyH.cons (o := ihf9) rfl (fun K hK => ?_) AllReadyH.nil
          obtain ⟨a9, c9, X14, hrun, o9, tu⟩ := appAll_run w1.heap.size X13 BX13.out.size (X12.heap.size) E6.out.own oa offs offs.length oc rfl (IO.out.keep BX13.out) HOF.out
          have BX14 : Hid (Below w1.heap.size w1 X14) := BX13.out.trans (tu.below (fun i e => by rw [e]; exact E6.out.ge) BX13.out.size)
          have S3 := Hid.mk' (S3.out.tu tu NG.out NLA.out VI.out)
          have B14 := Hid.mk' (B14.out.tu tu N6.out)
          have O9 : Hid (OwnsI X14 w1.heap.size a9 offs c9) := o9
          refine step_app rfl _ _ 22 rfl (.slice (some ⟨X12.heap.size, 0, none⟩) 0 0) (.slice oa offs.length oc) rfl rfl _ _ hrun ?_
          refine hK.out _ _ ⟨NK.out _ BX14.out, S3.out.j⟩ (fun _ => ?_)
          clear hK K
          try simp only [ihf9, Act.put, List.setIfInBounds_toArray, List.set_cons_succ, List.set_cons_zero]
          clear hrun o9 tu
          refine wpAnyH_ready (rs := [12]) (by kernel_rfl) (by simp) ?_
          refine AllReadyH.cons (o := ihf12) rfl (fun K hK => ?_) AllReadyH.nil
          unfold ihf12
          go_simp
          refine (copy_any ba bc bytes.length bytes X14 rfl (IB.out.keep BX14.out) HBY.out).mono ?_
          rintro e X15 ⟨g12, c12, rfl, o12, bX15⟩
          go_wp2_with fail
          have BX15 : Hid (Below w1.heap.size w1 X15) := BX14.out.trans (bX15.mono BX14.out.size)
          have S3 := Hid.mk' (S3.out.keep bX15)
          have B14 := Hid.mk' (B14.out.keep bX15)
          have O9 := Hid.mk' (OwnsI.keep O9.out bX15)
          have Y12 : Hid (OwnsB X15 w1.heap.size (some ⟨g12, 0, none⟩) bytes c12) := OwnsB.mono o12 BX14.out.size
          refine hK.out _ _ ⟨NK.out _ BX15.out, S3.out.j⟩ (fun _ => ?_)
          clear hK K
          try simp only [ihf12, Act.put, List.setIfInBounds_toArray, List.set_cons_succ, List.set_cons_zero]
          clear o12 bX15
          refine wpAnyH_take (i := 13) (oi := ihf13) (v := .agg #[.int .i64 p, .int .i64 c, .int .i64 s, .slice la2 live.length lc2, .int .i64 0, .slice a9 offs.length c9, .slice (some ⟨g12, 0, none⟩) bytes.length c12]) rfl (by kernel_rfl) (by kernel_rfl) (by kernel_rfl) (fun _ _ _ h => h) (.inl ⟨rfl, by intro wz hz; obtain ⟨⟨q0, q1, q2, q3, q4, q5, q6⟩, ⟨h0, h1, h2, h3⟩⟩ := hz; unfold ihf13; go_simp⟩) ⟨NK.out _ BX15.out, S3.out.j⟩ ?_
          simp only [ihf13, Act.put, List.setIfInBounds_toArray, List.set_cons_succ, List.set_cons_zero]
          obtain ⟨m0, m1, m2, m3, m4, m5, m6⟩ := icell B14.out.row
          have f00 := ithawed B14.out.row 0
          have f01 := ithawed B14.out.row 1
          have f02 := ithawed B14.out.row 2
          have f03 := ithawed B14.out.row 3
          have f04 := ithawed B14.out.row 4
          have f05 := ithawed B14.out.row 5
          have f06 := ithawed B14.out.row 6
          obtain ⟨LW, hLW⟩ : ∃ LW, lay7 X15 (X2.heap.size) (.int .i64 p) (.int .i64 c) (.int .i64 s) (.slice la2 live.length lc2) (.int .i64 0) (.slice a9 offs.length c9) (.slice (some ⟨g12, 0, none⟩) bytes.length c12) = LW := ⟨_, rfl⟩
          have LV : Hid (LW = (((((((X15.setCell ⟨X2.heap.size, 0, none⟩ (.int .i64 p)).setCell ⟨X2.heap.size, 1, none⟩ (.int .i64 c)).setCell ⟨X2.heap.size, 2, none⟩ (.int .i64 s)).setCell ⟨X2.heap.size, 3, none⟩ (.slice la2 live.length lc2)).setCell ⟨X2.heap.size, 4, none⟩ (.int .i64 0)).setCell ⟨X2.heap.size, 5, none⟩ (.slice a9 offs.length c9)).setCell ⟨X2.heap.size, 6, none⟩ (.slice (some ⟨g12, 0, none⟩) bytes.length c12))) := by show _ = _; rw [← hLW]; rfl
          have PO : Hid (MvP w1 LW (X2.heap.size) p c s 0 la2 lc2 a9 c9 (some ⟨g12, 0, none⟩) c12 live offs bytes ∧ (LW.cell? ⟨gA, 0, none⟩ = some (.int .i64 p) ∧ LW.cell? ⟨gA, 1, none⟩ = some (.int .i64 c) ∧ LW.cell? ⟨gA, 2, none⟩ = some (.int .i64 s) ∧ LW.cell? ⟨gA, 3, none⟩ = some (.slice la2 live.length lc2))) := by show _ ∧ _; rw [← hLW]; exact mvP_lay BX15.out S3.out B14.out O9.out Y12.out NA.out VI.out VO.out AY.out
          clear hLW
          refine wpAnyH_ready (rs := [15]) (by kernel_rfl) (by simp) ?_
          refine AllReadyH.cons (o := ihf15) rfl (fun K hK => ?_) AllReadyH.nil
          unfold ihf15
          go_simp
          rw [← LV.out]
          refine hK.out _ _ ⟨NK.out _ PO.out.1.low, PO.out.2⟩ (fun _ => ?_)
          clear hK K
          try simp only [ihf15, Act.put, List.setIfInBounds_toArray, List.set_cons_succ, List.set_cons_zero]
          refine wpAnyH_done (by kernel_rfl) ?_ _
          go_wp2
          go_meet
          exact ⟨_, _, _, _, _, _, _, rfl, PO.out.1⟩
      · obtain ⟨X16, hX16⟩ : ∃ W, X1.alloc (.cells #[] 3) = W := ⟨_, rfl⟩
        have bX16 : Below X1.heap.size X1 X16 := by rw [← hX16]; exact (Below.refl _ _).alloc (Nat.le_refl _) _
        have BX16 : Hid (Below w1.heap.size w1 X16) := BX1.out.trans (bX16.mono BX1.out.size)
        have R2 := Hid.mk' (R2.out.keep bX16)
        have E6 : Hid (Em w1 X16 X1.heap.size) := by show Em _ _ _; rw [← hX16]; exact Em.made BX1.out.size
        unfold ihf6
        go_simp
        try rw [hX16]
        refine hK.out _ _ (NK.out _ BX16.out) (fun _ => ?_)
        clear hK K
        try simp only [ihf6, Act.put, List.setIfInBounds_toArray, List.set_cons_succ, List.set_cons_zero]
        clear hX16 bX16
        refine wpAnyH_ready (rs := [3, 14]) (by kernel_rfl) (by simp) ?_
        refine AllReadyH.cons (o := ihf3) rfl (fun K hK => ?_) (AllReadyH.cons (o := ihf14) rfl (fun K hK => ?_) AllReadyH.nil)
        · unfold ihf3
          go_simp
          refine (rcopy_any (some ⟨X0.heap.size, 0, none⟩) 1 1 [⟨p, c, s, live⟩] X16 R2.out rfl (by omega) (fun t ht => by simp at ht; subst ht; exact HLV.out)).mono ?_
          rintro e X17 ⟨a3, c3, rfl, t3, bX17⟩
          obtain ⟨gA, la2, lc2, rfl, jj⟩ := sp1_of t3 BX16.out.size
          go_wp2_with fail
          have BX17 : Hid (Below w1.heap.size w1 X17) := BX16.out.trans (bX17.mono BX16.out.size)
          have NG : Hid (¬ (gA = X1.heap.size)) := by show ¬ _; have := E6.out.lt; have := jj.2.1; omega
          have NLA : Hid (∀ ad, la2 = some ad → ¬ (ad.block = X1.heap.size)) := fun ad e => by have := E6.out.lt; have := jj.2.2 ad e; omega
          have E6 := Hid.mk' (E6.out.keep bX17)
          have S3 : Hid (Sp1 w1 X17 p c s live gA la2 lc2) := jj.1
          refine hK.out _ _ (NK.out _ BX17.out) (fun _ => ?_)
          clear hK K
          try simp only [ihf3, Act.put, List.setIfInBounds_toArray, List.set_cons_succ, List.set_cons_zero]
          clear jj t3 bX17
          refine wpAnyH_strong (S2 := (fun wz => (wz.cell? ⟨w.heap.size, 0, none⟩ = some (.int .i64 p) ∧ wz.cell? ⟨w.heap.size, 1, none⟩ = some (.int .i64 c) ∧ wz.cell? ⟨w.heap.size, 2, none⟩ = some (.int .i64 s) ∧ wz.cell? ⟨w.heap.size, 3, none⟩ = some (.slice la live.length lc) ∧ wz.cell? ⟨w.heap.size, 4, none⟩ = some (.int .i64 base) ∧ wz.cell? ⟨w.heap.size, 5, none⟩ = some (.slice oa offs.length oc) ∧ wz.cell? ⟨w.heap.size, 6, none⟩ = some (.slice ba bytes.length bc)) ∧ (wz.cell? ⟨gA, 0, none⟩ = some (.int .i64 p) ∧ wz.cell? ⟨gA, 1, none⟩ = some (.int .i64 c) ∧ wz.cell? ⟨gA, 2, none⟩ = some (.int .i64 s) ∧ wz.cell? ⟨gA, 3, none⟩ = some (.slice la2 live.length lc2)))) (fun _ q => q.1) _ _ _ _ ?_
          refine wpAnyH_take (i := 4) (oi := ihf4) (v := .pointer (some ⟨gA, 0, none⟩)) rfl (by kernel_rfl) (by kernel_rfl) (by kernel_rfl) (fun _ _ _ h => h) (.inl ⟨rfl, by intro wz hz; obtain ⟨⟨q0, q1, q2, q3, q4, q5, q6⟩, ⟨h0, h1, h2, h3⟩⟩ := hz; unfold ihf4; go_simp⟩) ⟨NK.out _ BX17.out, S3.out.j⟩ ?_
          simp only [ihf4, Act.put, List.setIfInBounds_toArray, List.set_cons_succ, List.set_cons_zero]
          refine wpAnyH_take (i := 5) (oi := ihf5) (v := .agg #[.int .i64 p, .int .i64 c, .int .i64 s, .slice la2 live.length lc2]) rfl (by kernel_rfl) (by kernel_rfl) (by kernel_rfl) (fun _ _ _ h => h) (.inl ⟨rfl, by intro wz hz; obtain ⟨⟨q0, q1, q2, q3, q4, q5, q6⟩, ⟨h0, h1, h2, h3⟩⟩ := hz; unfold ihf5; go_simp⟩) ⟨NK.out _ BX17.out, S3.out.j⟩ ?_
          simp only [ihf5, Act.put, List.setIfInBounds_toArray, List.set_cons_succ, List.set_cons_zero]
          refine wpAnyH_ready (rs := [9, 14]) (by kernel_rfl) (by simp) ?_
          refine AllReadyH.cons (o := ihf9) rfl (fun K hK => ?_) (AllReadyH.cons (o := ihf14) rfl (fun K hK => ?_) AllReadyH.nil)
          · obtain ⟨a9, c9, X18, hrun, o9, tu⟩ := appAll_run w1.heap.size X17 BX17.out.size (X1.heap.size) E6.out.own oa offs offs.length oc rfl (IO.out.keep BX17.out) HOF.out
            have BX18 : Hid (Below w1.heap.size w1 X18) := BX17.out.trans (tu.below (fun i e => by rw [e]; exact E6.out.ge) BX17.out.size)
            have S3 := Hid.mk' (S3.out.tu tu NG.out NLA.out VI.out)
            have O9 : Hid (OwnsI X18 w1.heap.size a9 offs c9) := o9
            refine step_app rfl _ _ 22 rfl (.slice (some ⟨X1.heap.size, 0, none⟩) 0 0) (.slice oa offs.length oc) rfl rfl _ _ hrun ?_
            refine hK.out _ _ ⟨NK.out _ BX18.out, S3.out.j⟩ (fun _ => ?_)
            clear hK K
            try simp only [ihf9, Act.put, List.setIfInBounds_toArray, List.set_cons_succ, List.set_cons_zero]
            clear hrun o9 tu
            refine wpAnyH_ready (rs := [12, 14]) (by kernel_rfl) (by simp) ?_
            refine AllReadyH.cons (o := ihf12) rfl (fun K hK => ?_) (AllReadyH.cons (o := ihf14) rfl (fun K hK => ?_) AllReadyH.nil)
            · unfold ihf12
              go_simp
              refine (copy_any ba bc bytes.length bytes X18 rfl (IB.out.keep BX18.out) HBY.out).mono ?_
              rintro e X19 ⟨g12, c12, rfl, o12, bX19⟩
              go_wp2_with fail
              have BX19 : Hid (Below w1.heap.size w1 X19) := BX18.out.trans (bX19.mono BX18.out.size)
              have S3 := Hid.mk' (S3.out.keep bX19)
              have O9 := Hid.mk' (OwnsI.keep O9.out bX19)
              have Y12 : Hid (OwnsB X19 w1.heap.size (some ⟨g12, 0, none⟩) bytes c12) := OwnsB.mono o12 BX18.out.size
              refine hK.out _ _ ⟨NK.out _ BX19.out, S3.out.j⟩ (fun _ => ?_)
              clear hK K
              try simp only [ihf12, Act.put, List.setIfInBounds_toArray, List.set_cons_succ, List.set_cons_zero]
              clear o12 bX19
              refine wpAnyH_take (i := 13) (oi := ihf13) (v := .agg #[.int .i64 p, .int .i64 c, .int .i64 s, .slice la2 live.length lc2, .int .i64 0, .slice a9 offs.length c9, .slice (some ⟨g12, 0, none⟩) bytes.length c12]) rfl (by kernel_rfl) (by kernel_rfl) (by kernel_rfl) (fun _ _ _ h => h) (.inl ⟨rfl, by intro wz hz; obtain ⟨⟨q0, q1, q2, q3, q4, q5, q6⟩, ⟨h0, h1, h2, h3⟩⟩ := hz; unfold ihf13; go_simp⟩) ⟨NK.out _ BX19.out, S3.out.j⟩ ?_
              simp only [ihf13, Act.put, List.setIfInBounds_toArray, List.set_cons_succ, List.set_cons_zero]
              refine wpAnyH_ready (rs := [14]) (by kernel_rfl) (by simp) ?_
              refine AllReadyH.cons (o := ihf14) rfl (fun K hK => ?_) AllReadyH.nil
              obtain ⟨X20, hX20, zX20, rX20, bX20⟩ := ibox 34 X19 0 0 0 none 0 0 0 none 0 0 none 0 0
              have BX20 : Hid (Below w1.heap.size w1 X20) := BX19.out.trans (bX20.mono BX19.out.size)
              have NA : Hid (¬ (gA = X19.heap.size)) := by show ¬ _; have := S3.out.lt; omega
              have S3 := Hid.mk' (S3.out.keep bX20)
              have O9 := Hid.mk' (OwnsI.keep O9.out bX20)
              have Y12 := Hid.mk' (OwnsB.keep Y12.out bX20)
              have B14 : Hid (Bo w1 X20 X19.heap.size) := ⟨BX19.out.size, rX20⟩
              unfold ihf14
              go_simp
              try rw [hX20]
              refine hK.out _ _ ⟨NK.out _ BX20.out, S3.out.j⟩ (fun _ => ?_)
              clear hK K
              try simp only [ihf14, Act.put, List.setIfInBounds_toArray, List.set_cons_succ, List.set_cons_zero]
              clear hX20 zX20 rX20 bX20
              obtain ⟨m0, m1, m2, m3, m4, m5, m6⟩ := icell B14.out.row
              have f00 := ithawed B14.out.row 0
              have f01 := ithawed B14.out.row 1
              have f02 := ithawed B14.out.row 2
              have f03 := ithawed B14.out.row 3
              have f04 := ithawed B14.out.row 4
              have f05 := ithawed B14.out.row 5
              have f06 := ithawed B14.out.row 6
              obtain ⟨LW, hLW⟩ : ∃ LW, lay7 X20 (X19.heap.size) (.int .i64 p) (.int .i64 c) (.int .i64 s) (.slice la2 live.length lc2) (.int .i64 0) (.slice a9 offs.length c9) (.slice (some ⟨g12, 0, none⟩) bytes.length c12) = LW := ⟨_, rfl⟩
              have LV : Hid (LW = (((((((X20.setCell ⟨X19.heap.size, 0, none⟩ (.int .i64 p)).setCell ⟨X19.heap.size, 1, none⟩ (.int .i64 c)).setCell ⟨X19.heap.size, 2, none⟩ (.int .i64 s)).setCell ⟨X19.heap.size, 3, none⟩ (.slice la2 live.length lc2)).setCell ⟨X19.heap.size, 4, none⟩ (.int .i64 0)).setCell ⟨X19.heap.size, 5, none⟩ (.slice a9 offs.length c9)).setCell ⟨X19.heap.size, 6, none⟩ (.slice (some ⟨g12, 0, none⟩) bytes.length c12))) := by show _ = _; rw [← hLW]; rfl
              have PO : Hid (MvP w1 LW (X19.heap.size) p c s 0 la2 lc2 a9 c9 (some ⟨g12, 0, none⟩) c12 live offs bytes ∧ (LW.cell? ⟨gA, 0, none⟩ = some (.int .i64 p) ∧ LW.cell? ⟨gA, 1, none⟩ = some (.int .i64 c) ∧ LW.cell? ⟨gA, 2, none⟩ = some (.int .i64 s) ∧ LW.cell? ⟨gA, 3, none⟩ = some (.slice la2 live.length lc2))) := by show _ ∧ _; rw [← hLW]; exact mvP_lay BX20.out S3.out B14.out O9.out Y12.out NA.out VI.out VO.out AY.out
              clear hLW
              refine wpAnyH_ready (rs := [15]) (by kernel_rfl) (by simp) ?_
              refine AllReadyH.cons (o := ihf15) rfl (fun K hK => ?_) AllReadyH.nil
              unfold ihf15
              go_simp
              rw [← LV.out]
              refine hK.out _ _ ⟨NK.out _ PO.out.1.low, PO.out.2⟩ (fun _ => ?_)
              clear hK K
              try simp only [ihf15, Act.put, List.setIfInBounds_toArray, List.set_cons_succ, List.set_cons_zero]
              refine wpAnyH_done (by kernel_rfl) ?_ _
              go_wp2
              go_meet
              exact ⟨_, _, _, _, _, _, _, rfl, PO.out.1⟩
            · obtain ⟨X21, hX21, zX21, rX21, bX21⟩ := ibox 34 X18 0 0 0 none 0 0 0 none 0 0 none 0 0
              have BX21 : Hid (Below w1.heap.size w1 X21) := BX18.out.trans (bX21.mono BX18.out.size)
              have NA : Hid (¬ (gA = X18.heap.size)) := by show ¬ _; have := S3.out.lt; omega
              have S3 := Hid.mk' (S3.out.keep bX21)
              have O9 := Hid.mk' (OwnsI.keep O9.out bX21)
              have B14 : Hid (Bo w1 X21 X18.heap.size) := ⟨BX18.out.size, rX21⟩
              unfold ihf14
              go_simp
              try rw [hX21]
              refine hK.out _ _ ⟨NK.out _ BX21.out, S3.out.j⟩ (fun _ => ?_)
              clear hK K
              try simp only [ihf14, Act.put, List.setIfInBounds_toArray, List.set_cons_succ, List.set_cons_zero]
              clear hX21 zX21 rX21 bX21
              refine wpAnyH_ready (rs := [12]) (by kernel_rfl) (by simp) ?_
              refine AllReadyH.cons (o := ihf12) rfl (fun K hK => ?_) AllReadyH.nil
              unfold ihf12
              go_simp
              refine (copy_any ba bc bytes.length bytes X21 rfl (IB.out.keep BX21.out) HBY.out).mono ?_
              rintro e X22 ⟨g12, c12, rfl, o12, bX22⟩
              go_wp2_with fail
              have BX22 : Hid (Below w1.heap.size w1 X22) := BX21.out.trans (bX22.mono BX21.out.size)
              have S3 := Hid.mk' (S3.out.keep bX22)
              have B14 := Hid.mk' (B14.out.keep bX22)
              have O9 := Hid.mk' (OwnsI.keep O9.out bX22)
              have Y12 : Hid (OwnsB X22 w1.heap.size (some ⟨g12, 0, none⟩) bytes c12) := OwnsB.mono o12 BX21.out.size
              refine hK.out _ _ ⟨NK.out _ BX22.out, S3.out.j⟩ (fun _ => ?_)
              clear hK K
              try simp only [ihf12, Act.put, List.setIfInBounds_toArray, List.set_cons_succ, List.set_cons_zero]
              clear o12 bX22
              refine wpAnyH_take (i := 13) (oi := ihf13) (v := .agg #[.int .i64 p, .int .i64 c, .int .i64 s, .slice la2 live.length lc2, .int .i64 0, .slice a9 offs.length c9, .slice (some ⟨g12, 0, none⟩) bytes.length c12]) rfl (by kernel_rfl) (by kernel_rfl) (by kernel_rfl) (fun _ _ _ h => h) (.inl ⟨rfl, by intro wz hz; obtain ⟨⟨q0, q1, q2, q3, q4, q5, q6⟩, ⟨h0, h1, h2, h3⟩⟩ := hz; unfold ihf13; go_simp⟩) ⟨NK.out _ BX22.out, S3.out.j⟩ ?_
              simp only [ihf13, Act.put, List.setIfInBounds_toArray, List.set_cons_succ, List.set_cons_zero]
              obtain ⟨m0, m1, m2, m3, m4, m5, m6⟩ := icell B14.out.row
              have f00 := ithawed B14.out.row 0
              have f01 := ithawed B14.out.row 1
              have f02 := ithawed B14.out.row 2
              have f03 := ithawed B14.out.row 3
              have f04 := ithawed B14.out.row 4
              have f05 := ithawed B14.out.row 5
              have f06 := ithawed B14.out.row 6
              obtain ⟨LW, hLW⟩ : ∃ LW, lay7 X22 (X18.heap.size) (.int .i64 p) (.int .i64 c) (.int .i64 s) (.slice la2 live.length lc2) (.int .i64 0) (.slice a9 offs.length c9) (.slice (some ⟨g12, 0, none⟩) bytes.length c12) = LW := ⟨_, rfl⟩
              have LV : Hid (LW = (((((((X22.setCell ⟨X18.heap.size, 0, none⟩ (.int .i64 p)).setCell ⟨X18.heap.size, 1, none⟩ (.int .i64 c)).setCell ⟨X18.heap.size, 2, none⟩ (.int .i64 s)).setCell ⟨X18.heap.size, 3, none⟩ (.slice la2 live.length lc2)).setCell ⟨X18.heap.size, 4, none⟩ (.int .i64 0)).setCell ⟨X18.heap.size, 5, none⟩ (.slice a9 offs.length c9)).setCell ⟨X18.heap.size, 6, none⟩ (.slice (some ⟨g12, 0, none⟩) bytes.length c12))) := by show _ = _; rw [← hLW]; rfl
              have PO : Hid (MvP w1 LW (X18.heap.size) p c s 0 la2 lc2 a9 c9 (some ⟨g12, 0, none⟩) c12 live offs bytes ∧ (LW.cell? ⟨gA, 0, none⟩ = some (.int .i64 p) ∧ LW.cell? ⟨gA, 1, none⟩ = some (.int .i64 c) ∧ LW.cell? ⟨gA, 2, none⟩ = some (.int .i64 s) ∧ LW.cell? ⟨gA, 3, none⟩ = some (.slice la2 live.length lc2))) := by show _ ∧ _; rw [← hLW]; exact mvP_lay BX22.out S3.out B14.out O9.out Y12.out NA.out VI.out VO.out AY.out
              clear hLW
              refine wpAnyH_ready (rs := [15]) (by kernel_rfl) (by simp) ?_
              refine AllReadyH.cons (o := ihf15) rfl (fun K hK => ?_) AllReadyH.nil
              unfold ihf15
              go_simp
              rw [← LV.out]
              refine hK.out _ _ ⟨NK.out _ PO.out.1.low, PO.out.2⟩ (fun _ => ?_)
              clear hK K
              try simp only [ihf15, Act.put, List.setIfInBounds_toArray, List.set_cons_succ, List.set_cons_zero]
              refine wpAnyH_done (by kernel_rfl) ?_ _
              go_wp2
              go_meet
              exact ⟨_, _, _, _, _, _, _, rfl, PO.out.1⟩
          · obtain ⟨X23, hX23, zX23, rX23, bX23⟩ := ibox 34 X17 0 0 0 none 0 0 0 none 0 0 none 0 0
            have BX23 : Hid (Below w1.heap.size w1 X23) := BX17.out.trans (bX23.mono BX17.out.size)
            have NA : Hid (¬ (gA = X17.heap.size)) := by show ¬ _; have := S3.out.lt; omega
            have N6 : Hid (¬ (X17.heap.size = X1.heap.size)) := by show ¬ _; have := E6.out.lt; omega
            have S3 := Hid.mk' (S3.out.keep bX23)
            have E6 := Hid.mk' (E6.out.keep bX23)
            have B14 : Hid (Bo w1 X23 X17.heap.size) := ⟨BX17.out.size, rX23⟩
            unfold ihf14
            go_simp
            try rw [hX23]
            refine hK.out _ _ ⟨NK.out _ BX23.out, S3.out.j⟩ (fun _ => ?_)
            clear hK K
            try simp only [ihf14, Act.put, List.setIfInBounds_toArray, List.set_cons_succ, List.set_cons_zero]
            clear hX23 zX23 rX23 bX23
            refine wpAnyH_ready (rs := [9]) (by kernel_rfl) (by simp) ?_
            refine AllReadyH.cons (o := ihf9) rfl (fun K hK => ?_) AllReadyH.nil
            obtain ⟨a9, c9, X24, hrun, o9, tu⟩ := appAll_run w1.heap.size X23 BX23.out.size (X1.heap.size) E6.out.own oa offs offs.length oc rfl (IO.out.keep BX23.out) HOF.out
            have BX24 : Hid (Below w1.heap.size w1 X24) := BX23.out.trans (tu.below (fun i e => by rw [e]; exact E6.out.ge) BX23.out.size)
            have S3 := Hid.mk' (S3.out.tu tu NG.out NLA.out VI.out)
            have B14 := Hid.mk' (B14.out.tu tu N6.out)
            have O9 : Hid (OwnsI X24 w1.heap.size a9 offs c9) := o9
            refine step_app rfl _ _ 22 rfl (.slice (some ⟨X1.heap.size, 0, none⟩) 0 0) (.slice oa offs.length oc) rfl rfl _ _ hrun ?_
            refine hK.out _ _ ⟨NK.out _ BX24.out, S3.out.j⟩ (fun _ => ?_)
            clear hK K
            try simp only [ihf9, Act.put, List.setIfInBounds_toArray, List.set_cons_succ, List.set_cons_zero]
            clear hrun o9 tu
            refine wpAnyH_ready (rs := [12]) (by kernel_rfl) (by simp) ?_
            refine AllReadyH.cons (o := ihf12) rfl (fun K hK => ?_) AllReadyH.nil
            unfold ihf12
            go_simp
            refine (copy_any ba bc bytes.length bytes X24 rfl (IB.out.keep BX24.out) HBY.out).mono ?_
            rintro e X25 ⟨g12, c12, rfl, o12, bX25⟩
            go_wp2_with fail
            have BX25 : Hid (Below w1.heap.size w1 X25) := BX24.out.trans (bX25.mono BX24.out.size)
            have S3 := Hid.mk' (S3.out.keep bX25)
            have B14 := Hid.mk' (B14.out.keep bX25)
            have O9 := Hid.mk' (OwnsI.keep O9.out bX25)
            have Y12 : Hid (OwnsB X25 w1.heap.size (some ⟨g12, 0, none⟩) bytes c12) := OwnsB.mono o12 BX24.out.size
            refine hK.out _ _ ⟨NK.out _ BX25.out, S3.out.j⟩ (fun _ => ?_)
            clear hK K
            try simp only [ihf12, Act.put, List.setIfInBounds_toArray, List.set_cons_succ, List.set_cons_zero]
            clear o12 bX25
            refine wpAnyH_take (i := 13) (oi := ihf13) (v := .agg #[.int .i64 p, .int .i64 c, .int .i64 s, .slice la2 live.length lc2, .int .i64 0, .slice a9 offs.length c9, .slice (some ⟨g12, 0, none⟩) bytes.length c12]) rfl (by kernel_rfl) (by kernel_rfl) (by kernel_rfl) (fun _ _ _ h => h) (.inl ⟨rfl, by intro wz hz; obtain ⟨⟨q0, q1, q2, q3, q4, q5, q6⟩, ⟨h0, h1, h2, h3⟩⟩ := hz; unfold ihf13; go_simp⟩) ⟨NK.out _ BX25.out, S3.out.j⟩ ?_
            simp only [ihf13, Act.put, List.setIfInBounds_toArray, List.set_cons_succ, List.set_cons_zero]
            obtain ⟨m0, m1, m2, m3, m4, m5, m6⟩ := icell B14.out.row
            have f00 := ithawed B14.out.row 0
            have f01 := ithawed B14.out.row 1
            have f02 := ithawed B14.out.row 2
            have f03 := ithawed B14.out.row 3
            have f04 := ithawed B14.out.row 4
            have f05 := ithawed B14.out.row 5
            have f06 := ithawed B14.out.row 6
            obtain ⟨LW, hLW⟩ : ∃ LW, lay7 X25 (X17.heap.size) (.int .i64 p) (.int .i64 c) (.int .i64 s) (.slice la2 live.length lc2) (.int .i64 0) (.slice a9 offs.length c9) (.slice (some ⟨g12, 0, none⟩) bytes.length c12) = LW := ⟨_, rfl⟩
            have LV : Hid (LW = (((((((X25.setCell ⟨X17.heap.size, 0, none⟩ (.int .i64 p)).setCell ⟨X17.heap.size, 1, none⟩ (.int .i64 c)).setCell ⟨X17.heap.size, 2, none⟩ (.int .i64 s)).setCell ⟨X17.heap.size, 3, none⟩ (.slice la2 live.length lc2)).setCell ⟨X17.heap.size, 4, none⟩ (.int .i64 0)).setCell ⟨X17.heap.size, 5, none⟩ (.slice a9 offs.length c9)).setCell ⟨X17.heap.size, 6, none⟩ (.slice (some ⟨g12, 0, none⟩) bytes.length c12))) := by show _ = _; rw [← hLW]; rfl
            have PO : Hid (MvP w1 LW (X17.heap.size) p c s 0 la2 lc2 a9 c9 (some ⟨g12, 0, none⟩) c12 live offs bytes ∧ (LW.cell? ⟨gA, 0, none⟩ = some (.int .i64 p) ∧ LW.cell? ⟨gA, 1, none⟩ = some (.int .i64 c) ∧ LW.cell? ⟨gA, 2, none⟩ = some (.int .i64 s) ∧ LW.cell? ⟨gA, 3, none⟩ = some (.slice la2 live.length lc2))) := by show _ ∧ _; rw [← hLW]; exact mvP_lay BX25.out S3.out B14.out O9.out Y12.out NA.out VI.out VO.out AY.out
            clear hLW
            refine wpAnyH_ready (rs := [15]) (by kernel_rfl) (by simp) ?_
            refine AllReadyH.cons (o := ihf15) rfl (fun K hK => ?_) AllReadyH.nil
            unfold ihf15
            go_simp
            rw [← LV.out]
            refine hK.out _ _ ⟨NK.out _ PO.out.1.low, PO.out.2⟩ (fun _ => ?_)
            clear hK K
            try simp only [ihf15, Act.put, List.setIfInBounds_toArray, List.set_cons_succ, List.set_cons_zero]
            refine wpAnyH_done (by kernel_rfl) ?_ _
            go_wp2
            go_meet
            exact ⟨_, _, _, _, _, _, _, rfl, PO.out.1⟩
        · obtain ⟨X26, hX26, zX26, rX26, bX26⟩ := ibox 34 X16 0 0 0 none 0 0 0 none 0 0 none 0 0
          have BX26 : Hid (Below w1.heap.size w1 X26) := BX16.out.trans (bX26.mono BX16.out.size)
          have N6 : Hid (¬ (X16.heap.size = X1.heap.size)) := by show ¬ _; have := E6.out.lt; omega
          have R2 := Hid.mk' (R2.out.keep bX26)
          have E6 := Hid.mk' (E6.out.keep bX26)
          have B14 : Hid (Bo w1 X26 X16.heap.size) := ⟨BX16.out.size, rX26⟩
          unfold ihf14
          go_simp
          try rw [hX26]
          refine hK.out _ _ (NK.out _ BX26.out) (fun _ => ?_)
          clear hK K
          try simp only [ihf14, Act.put, List.setIfInBounds_toArray, List.set_cons_succ, List.set_cons_zero]
          clear hX26 zX26 rX26 bX26
          refine wpAnyH_ready (rs := [3]) (by kernel_rfl) (by simp) ?_
          refine AllReadyH.cons (o := ihf3) rfl (fun K hK => ?_) AllReadyH.nil
          unfold ihf3
          go_simp
          refine (rcopy_any (some ⟨X0.heap.size, 0, none⟩) 1 1 [⟨p, c, s, live⟩] X26 R2.out rfl (by omega) (fun t ht => by simp at ht; subst ht; exact HLV.out)).mono ?_
          rintro e X27 ⟨a3, c3, rfl, t3, bX27⟩
          obtain ⟨gA, la2, lc2, rfl, jj⟩ := sp1_of t3 BX26.out.size
          go_wp2_with fail
          have BX27 : Hid (Below w1.heap.size w1 X27) := BX26.out.trans (bX27.mono BX26.out.size)
          have NG : Hid (¬ (gA = X1.heap.size)) := by show ¬ _; have := E6.out.lt; have := jj.2.1; omega
          have NLA : Hid (∀ ad, la2 = some ad → ¬ (ad.block = X1.heap.size)) := fun ad e => by have := E6.out.lt; have := jj.2.2 ad e; omega
          have NA : Hid (¬ (gA = X16.heap.size)) := by show ¬ _; have := row_lt B14.out.row; have := jj.2.1; omega
          have E6 := Hid.mk' (E6.out.keep bX27)
          have B14 := Hid.mk' (B14.out.keep bX27)
          have S3 : Hid (Sp1 w1 X27 p c s live gA la2 lc2) := jj.1
          refine hK.out _ _ (NK.out _ BX27.out) (fun _ => ?_)
          clear hK K
          try simp only [ihf3, Act.put, List.setIfInBounds_toArray, List.set_cons_succ, List.set_cons_zero]
          clear jj t3 bX27
          refine wpAnyH_strong (S2 := (fun wz => (wz.cell? ⟨w.heap.size, 0, none⟩ = some (.int .i64 p) ∧ wz.cell? ⟨w.heap.size, 1, none⟩ = some (.int .i64 c) ∧ wz.cell? ⟨w.heap.size, 2, none⟩ = some (.int .i64 s) ∧ wz.cell? ⟨w.heap.size, 3, none⟩ = some (.slice la live.length lc) ∧ wz.cell? ⟨w.heap.size, 4, none⟩ = some (.int .i64 base) ∧ wz.cell? ⟨w.heap.size, 5, none⟩ = some (.slice oa offs.length oc) ∧ wz.cell? ⟨w.heap.size, 6, none⟩ = some (.slice ba bytes.length bc)) ∧ (wz.cell? ⟨gA, 0, none⟩ = some (.int .i64 p) ∧ wz.cell? ⟨gA, 1, none⟩ = some (.int .i64 c) ∧ wz.cell? ⟨gA, 2, none⟩ = some (.int .i64 s) ∧ wz.cell? ⟨gA, 3, none⟩ = some (.slice la2 live.length lc2)))) (fun _ q => q.1) _ _ _ _ ?_
          refine wpAnyH_take (i := 4) (oi := ihf4) (v := .pointer (some ⟨gA, 0, none⟩)) rfl (by kernel_rfl) (by kernel_rfl) (by kernel_rfl) (fun _ _ _ h => h) (.inl ⟨rfl, by intro wz hz; obtain ⟨⟨q0, q1, q2, q3, q4, q5, q6⟩, ⟨h0, h1, h2, h3⟩⟩ := hz; unfold ihf4; go_simp⟩) ⟨NK.out _ BX27.out, S3.out.j⟩ ?_
          simp only [ihf4, Act.put, List.setIfInBounds_toArray, List.set_cons_succ, List.set_cons_zero]
          refine wpAnyH_take (i := 5) (oi := ihf5) (v := .agg #[.int .i64 p, .int .i64 c, .int .i64 s, .slice la2 live.length lc2]) rfl (by kernel_rfl) (by kernel_rfl) (by kernel_rfl) (fun _ _ _ h => h) (.inl ⟨rfl, by intro wz hz; obtain ⟨⟨q0, q1, q2, q3, q4, q5, q6⟩, ⟨h0, h1, h2, h3⟩⟩ := hz; unfold ihf5; go_simp⟩) ⟨NK.out _ BX27.out, S3.out.j⟩ ?_
          simp only [ihf5, Act.put, List.setIfInBounds_toArray, List.set_cons_succ, List.set_cons_zero]
          refine wpAnyH_ready (rs := [9]) (by kernel_rfl) (by simp) ?_
          refine AllReadyH.cons (o := ihf9) rfl (fun K hK => ?_) AllReadyH.nil
          obtain ⟨a9, c9, X28, hrun, o9, tu⟩ := appAll_run w1.heap.size X27 BX27.out.size (X1.heap.size) E6.out.own oa offs offs.length oc rfl (IO.out.keep BX27.out) HOF.out
          have BX28 : Hid (Below w1.heap.size w1 X28) := BX27.out.trans (tu.below (fun i e => by rw [e]; exact E6.out.ge) BX27.out.size)
          have S3 := Hid.mk' (S3.out.tu tu NG.out NLA.out VI.out)
          have B14 := Hid.mk' (B14.out.tu tu N6.out)
          have O9 : Hid (OwnsI X28 w1.heap.size a9 offs c9) := o9
          refine step_app rfl _ _ 22 rfl (.slice (some ⟨X1.heap.size, 0, none⟩) 0 0) (.slice oa offs.length oc) rfl rfl _ _ hrun ?_
          refine hK.out _ _ ⟨NK.out _ BX28.out, S3.out.j⟩ (fun _ => ?_)
          clear hK K
          try simp only [ihf9, Act.put, List.setIfInBounds_toArray, List.set_cons_succ, List.set_cons_zero]
          clear hrun o9 tu
          refine wpAnyH_ready (rs := [12]) (by kernel_rfl) (by simp) ?_
          refine AllReadyH.cons (o := ihf12) rfl (fun K hK => ?_) AllReadyH.nil
          unfold ihf12
          go_simp
          refine (copy_any ba bc bytes.length bytes X28 rfl (IB.out.keep BX28.out) HBY.out).mono ?_
          rintro e X29 ⟨g12, c12, rfl, o12, bX29⟩
          go_wp2_with fail
          have BX29 : Hid (Below w1.heap.size w1 X29) := BX28.out.trans (bX29.mono BX28.out.size)
          have S3 := Hid.mk' (S3.out.keep bX29)
          have B14 := Hid.mk' (B14.out.keep bX29)
          have O9 := Hid.mk' (OwnsI.keep O9.out bX29)
          have Y12 : Hid (OwnsB X29 w1.heap.size (some ⟨g12, 0, none⟩) bytes c12) := OwnsB.mono o12 BX28.out.size
          refine hK.out _ _ ⟨NK.out _ BX29.out, S3.out.j⟩ (fun _ => ?_)
          clear hK K
          try simp only [ihf12, Act.put, List.setIfInBounds_toArray, List.set_cons_succ, List.set_cons_zero]
          clear o12 bX29
          refine wpAnyH_take (i := 13) (oi := ihf13) (v := .agg #[.int .i64 p, .int .i64 c, .int .i64 s, .slice la2 live.length lc2, .int .i64 0, .slice a9 offs.length c9, .slice (some ⟨g12, 0, none⟩) bytes.length c12]) rfl (by kernel_rfl) (by kernel_rfl) (by kernel_rfl) (fun _ _ _ h => h) (.inl ⟨rfl, by intro wz hz; obtain ⟨⟨q0, q1, q2, q3, q4, q5, q6⟩, ⟨h0, h1, h2, h3⟩⟩ := hz; unfold ihf13; go_simp⟩) ⟨NK.out _ BX29.out, S3.out.j⟩ ?_
          simp only [ihf13, Act.put, List.setIfInBounds_toArray, List.set_cons_succ, List.set_cons_zero]
          obtain ⟨m0, m1, m2, m3, m4, m5, m6⟩ := icell B14.out.row
          have f00 := ithawed B14.out.row 0
          have f01 := ithawed B14.out.row 1
          have f02 := ithawed B14.out.row 2
          have f03 := ithawed B14.out.row 3
          have f04 := ithawed B14.out.row 4
          have f05 := ithawed B14.out.row 5
          have f06 := ithawed B14.out.row 6
          obtain ⟨LW, hLW⟩ : ∃ LW, lay7 X29 (X16.heap.size) (.int .i64 p) (.int .i64 c) (.int .i64 s) (.slice la2 live.length lc2) (.int .i64 0) (.slice a9 offs.length c9) (.slice (some ⟨g12, 0, none⟩) bytes.length c12) = LW := ⟨_, rfl⟩
          have LV : Hid (LW = (((((((X29.setCell ⟨X16.heap.size, 0, none⟩ (.int .i64 p)).setCell ⟨X16.heap.size, 1, none⟩ (.int .i64 c)).setCell ⟨X16.heap.size, 2, none⟩ (.int .i64 s)).setCell ⟨X16.heap.size, 3, none⟩ (.slice la2 live.length lc2)).setCell ⟨X16.heap.size, 4, none⟩ (.int .i64 0)).setCell ⟨X16.heap.size, 5, none⟩ (.slice a9 offs.length c9)).setCell ⟨X16.heap.size, 6, none⟩ (.slice (some ⟨g12, 0, none⟩) bytes.length c12))) := by show _ = _; rw [← hLW]; rfl
          have PO : Hid (MvP w1 LW (X16.heap.size) p c s 0 la2 lc2 a9 c9 (some ⟨g12, 0, none⟩) c12 live offs bytes ∧ (LW.cell? ⟨gA, 0, none⟩ = some (.int .i64 p) ∧ LW.cell? ⟨gA, 1, none⟩ = some (.int .i64 c) ∧ LW.cell? ⟨gA, 2, none⟩ = some (.int .i64 s) ∧ LW.cell? ⟨gA, 3, none⟩ = some (.slice la2 live.length lc2))) := by show _ ∧ _; rw [← hLW]; exact mvP_lay BX29.out S3.out B14.out O9.out Y12.out NA.out VI.out VO.out AY.out
          clear hLW
          refine wpAnyH_ready (rs := [15]) (by kernel_rfl) (by simp) ?_
          refine AllReadyH.cons (o := ihf15) rfl (fun K hK => ?_) AllReadyH.nil
          unfold ihf15
          go_simp
          rw [← LV.out]
          refine hK.out _ _ ⟨NK.out _ PO.out.1.low, PO.out.2⟩ (fun _ => ?_)
          clear hK K
          try simp only [ihf15, Act.put, List.setIfInBounds_toArray, List.set_cons_succ, List.set_cons_zero]
          refine wpAnyH_done (by kernel_rfl) ?_ _
          go_wp2
          go_meet
          exact ⟨_, _, _, _, _, _, _, rfl, PO.out.1⟩
      · obtain ⟨X30, hX30, zX30, rX30, bX30⟩ := ibox 34 X1 0 0 0 none 0 0 0 none 0 0 none 0 0
        have BX30 : Hid (Below w1.heap.size w1 X30) := BX1.out.trans (bX30.mono BX1.out.size)
        have R2 := Hid.mk' (R2.out.keep bX30)
        have B14 : Hid (Bo w1 X30 X1.heap.size) := ⟨BX1.out.size, rX30⟩
        unfold ihf14
        go_simp
        try rw [hX30]
        refine hK.out _ _ (NK.out _ BX30.out) (fun _ => ?_)
        clear hK K
        try simp only [ihf14, Act.put, List.setIfInBounds_toArray, List.set_cons_succ, List.set_cons_zero]
        clear hX30 zX30 rX30 bX30
        refine wpAnyH_ready (rs := [3, 6]) (by kernel_rfl) (by simp) ?_
        refine AllReadyH.cons (o := ihf3) rfl (fun K hK => ?_) (AllReadyH.cons (o := ihf6) rfl (fun K hK => ?_) AllReadyH.nil)
        · unfold ihf3
          go_simp
          refine (rcopy_any (some ⟨X0.heap.size, 0, none⟩) 1 1 [⟨p, c, s, live⟩] X30 R2.out rfl (by omega) (fun t ht => by simp at ht; subst ht; exact HLV.out)).mono ?_
          rintro e X31 ⟨a3, c3, rfl, t3, bX31⟩
          obtain ⟨gA, la2, lc2, rfl, jj⟩ := sp1_of t3 BX30.out.size
          go_wp2_with fail
          have BX31 : Hid (Below w1.heap.size w1 X31) := BX30.out.trans (bX31.mono BX30.out.size)
          have NA : Hid (¬ (gA = X1.heap.size)) := by show ¬ _; have := row_lt B14.out.row; have := jj.2.1; omega
          have B14 := Hid.mk' (B14.out.keep bX31)
          have S3 : Hid (Sp1 w1 X31 p c s live gA la2 lc2) := jj.1
          refine hK.out _ _ (NK.out _ BX31.out) (fun _ => ?_)
          clear hK K
          try simp only [ihf3, Act.put, List.setIfInBounds_toArray, List.set_cons_succ, List.set_cons_zero]
          clear jj t3 bX31
          refine wpAnyH_strong (S2 := (fun wz => (wz.cell? ⟨w.heap.size, 0, none⟩ = some (.int .i64 p) ∧ wz.cell? ⟨w.heap.size, 1, none⟩ = some (.int .i64 c) ∧ wz.cell? ⟨w.heap.size, 2, none⟩ = some (.int .i64 s) ∧ wz.cell? ⟨w.heap.size, 3, none⟩ = some (.slice la live.length lc) ∧ wz.cell? ⟨w.heap.size, 4, none⟩ = some (.int .i64 base) ∧ wz.cell? ⟨w.heap.size, 5, none⟩ = some (.slice oa offs.length oc) ∧ wz.cell? ⟨w.heap.size, 6, none⟩ = some (.slice ba bytes.length bc)) ∧ (wz.cell? ⟨gA, 0, none⟩ = some (.int .i64 p) ∧ wz.cell? ⟨gA, 1, none⟩ = some (.int .i64 c) ∧ wz.cell? ⟨gA, 2, none⟩ = some (.int .i64 s) ∧ wz.cell? ⟨gA, 3, none⟩ = some (.slice la2 live.length lc2)))) (fun _ q => q.1) _ _ _ _ ?_
          refine wpAnyH_take (i := 4) (oi := ihf4) (v := .pointer (some ⟨gA, 0, none⟩)) rfl (by kernel_rfl) (by kernel_rfl) (by kernel_rfl) (fun _ _ _ h => h) (.inl ⟨rfl, by intro wz hz; obtain ⟨⟨q0, q1, q2, q3, q4, q5, q6⟩, ⟨h0, h1, h2, h3⟩⟩ := hz; unfold ihf4; go_simp⟩) ⟨NK.out _ BX31.out, S3.out.j⟩ ?_
          simp only [ihf4, Act.put, List.setIfInBounds_toArray, List.set_cons_succ, List.set_cons_zero]
          refine wpAnyH_take (i := 5) (oi := ihf5) (v := .agg #[.int .i64 p, .int .i64 c, .int .i64 s, .slice la2 live.length lc2]) rfl (by kernel_rfl) (by kernel_rfl) (by kernel_rfl) (fun _ _ _ h => h) (.inl ⟨rfl, by intro wz hz; obtain ⟨⟨q0, q1, q2, q3, q4, q5, q6⟩, ⟨h0, h1, h2, h3⟩⟩ := hz; unfold ihf5; go_simp⟩) ⟨NK.out _ BX31.out, S3.out.j⟩ ?_
          simp only [ihf5, Act.put, List.setIfInBounds_toArray, List.set_cons_succ, List.set_cons_zero]
          refine wpAnyH_ready (rs := [6]) (by kernel_rfl) (by simp) ?_
          refine AllReadyH.cons (o := ihf6) rfl (fun K hK => ?_) AllReadyH.nil
          obtain ⟨X32, hX32⟩ : ∃ W, X31.alloc (.cells #[] 3) = W := ⟨_, rfl⟩
          have bX32 : Below X31.heap.size X31 X32 := by rw [← hX32]; exact (Below.refl _ _).alloc (Nat.le_refl _) _
          have BX32 : Hid (Below w1.heap.size w1 X32) := BX31.out.trans (bX32.mono BX31.out.size)
          have NG : Hid (¬ (gA = X31.heap.size)) := by show ¬ _; have := S3.out.lt; omega
          have NLA : Hid (∀ ad, la2 = some ad → ¬ (ad.block = X31.heap.size)) := fun ad e => by have := (S3.out.lb ad e).2; omega
          have N6 : Hid (¬ (X1.heap.size = X31.heap.size)) := by show ¬ _; have := row_lt B14.out.row; omega
          have S3 := Hid.mk' (S3.out.keep bX32)
          have B14 := Hid.mk' (B14.out.keep bX32)
          have E6 : Hid (Em w1 X32 X31.heap.size) := by show Em _ _ _; rw [← hX32]; exact Em.made BX31.out.size
          unfold ihf6
          go_simp
          try rw [hX32]
          refine hK.out _ _ ⟨NK.out _ BX32.out, S3.out.j⟩ (fun _ => ?_)
          clear hK K
          try simp only [ihf6, Act.put, List.setIfInBounds_toArray, List.set_cons_succ, List.set_cons_zero]
          clear hX32 bX32
          refine wpAnyH_ready (rs := [9]) (by kernel_rfl) (by simp) ?_
          refine AllReadyH.cons (o := ihf9) rfl (fun K hK => ?_) AllReadyH.nil
          obtain ⟨a9, c9, X33, hrun, o9, tu⟩ := appAll_run w1.heap.size X32 BX32.out.size (X31.heap.size) E6.out.own oa offs offs.length oc rfl (IO.out.keep BX32.out) HOF.out
          have BX33 : Hid (Below w1.heap.size w1 X33) := BX32.out.trans (tu.below (fun i e => by rw [e]; exact E6.out.ge) BX32.out.size)
          have S3 := Hid.mk' (S3.out.tu tu NG.out NLA.out VI.out)
          have B14 := Hid.mk' (B14.out.tu tu N6.out)
          have O9 : Hid (OwnsI X33 w1.heap.size a9 offs c9) := o9
          refine step_app rfl _ _ 22 rfl (.slice (some ⟨X31.heap.size, 0, none⟩) 0 0) (.slice oa offs.length oc) rfl rfl _ _ hrun ?_
          refine hK.out _ _ ⟨NK.out _ BX33.out, S3.out.j⟩ (fun _ => ?_)
          clear hK K
          try simp only [ihf9, Act.put, List.setIfInBounds_toArray, List.set_cons_succ, List.set_cons_zero]
          clear hrun o9 tu
          refine wpAnyH_ready (rs := [12]) (by kernel_rfl) (by simp) ?_
          refine AllReadyH.cons (o := ihf12) rfl (fun K hK => ?_) AllReadyH.nil
          unfold ihf12
          go_simp
          refine (copy_any ba bc bytes.length bytes X33 rfl (IB.out.keep BX33.out) HBY.out).mono ?_
          rintro e X34 ⟨g12, c12, rfl, o12, bX34⟩
          go_wp2_with fail
          have BX34 : Hid (Below w1.heap.size w1 X34) := BX33.out.trans (bX34.mono BX33.out.size)
          have S3 := Hid.mk' (S3.out.keep bX34)
          have B14 := Hid.mk' (B14.out.keep bX34)
          have O9 := Hid.mk' (OwnsI.keep O9.out bX34)
          have Y12 : Hid (OwnsB X34 w1.heap.size (some ⟨g12, 0, none⟩) bytes c12) := OwnsB.mono o12 BX33.out.size
          refine hK.out _ _ ⟨NK.out _ BX34.out, S3.out.j⟩ (fun _ => ?_)
          clear hK K
          try simp only [ihf12, Act.put, List.setIfInBounds_toArray, List.set_cons_succ, List.set_cons_zero]
          clear o12 bX34
          refine wpAnyH_take (i := 13) (oi := ihf13) (v := .agg #[.int .i64 p, .int .i64 c, .int .i64 s, .slice la2 live.length lc2, .int .i64 0, .slice a9 offs.length c9, .slice (some ⟨g12, 0, none⟩) bytes.length c12]) rfl (by kernel_rfl) (by kernel_rfl) (by kernel_rfl) (fun _ _ _ h => h) (.inl ⟨rfl, by intro wz hz; obtain ⟨⟨q0, q1, q2, q3, q4, q5, q6⟩, ⟨h0, h1, h2, h3⟩⟩ := hz; unfold ihf13; go_simp⟩) ⟨NK.out _ BX34.out, S3.out.j⟩ ?_
          simp only [ihf13, Act.put, List.setIfInBounds_toArray, List.set_cons_succ, List.set_cons_zero]
          obtain ⟨m0, m1, m2, m3, m4, m5, m6⟩ := icell B14.out.row
          have f00 := ithawed B14.out.row 0
          have f01 := ithawed B14.out.row 1
          have f02 := ithawed B14.out.row 2
          have f03 := ithawed B14.out.row 3
          have f04 := ithawed B14.out.row 4
          have f05 := ithawed B14.out.row 5
          have f06 := ithawed B14.out.row 6
          obtain ⟨LW, hLW⟩ : ∃ LW, lay7 X34 (X1.heap.size) (.int .i64 p) (.int .i64 c) (.int .i64 s) (.slice la2 live.length lc2) (.int .i64 0) (.slice a9 offs.length c9) (.slice (some ⟨g12, 0, none⟩) bytes.length c12) = LW := ⟨_, rfl⟩
          have LV : Hid (LW = (((((((X34.setCell ⟨X1.heap.size, 0, none⟩ (.int .i64 p)).setCell ⟨X1.heap.size, 1, none⟩ (.int .i64 c)).setCell ⟨X1.heap.size, 2, none⟩ (.int .i64 s)).setCell ⟨X1.heap.size, 3, none⟩ (.slice la2 live.length lc2)).setCell ⟨X1.heap.size, 4, none⟩ (.int .i64 0)).setCell ⟨X1.heap.size, 5, none⟩ (.slice a9 offs.length c9)).setCell ⟨X1.heap.size, 6, none⟩ (.slice (some ⟨g12, 0, none⟩) bytes.length c12))) := by show _ = _; rw [← hLW]; rfl
          have PO : Hid (MvP w1 LW (X1.heap.size) p c s 0 la2 lc2 a9 c9 (some ⟨g12, 0, none⟩) c12 live offs bytes ∧ (LW.cell? ⟨gA, 0, none⟩ = some (.int .i64 p) ∧ LW.cell? ⟨gA, 1, none⟩ = some (.int .i64 c) ∧ LW.cell? ⟨gA, 2, none⟩ = some (.int .i64 s) ∧ LW.cell? ⟨gA, 3, none⟩ = some (.slice la2 live.length lc2))) := by show _ ∧ _; rw [← hLW]; exact mvP_lay BX34.out S3.out B14.out O9.out Y12.out NA.out VI.out VO.out AY.out
          clear hLW
          refine wpAnyH_ready (rs := [15]) (by kernel_rfl) (by simp) ?_
          refine AllReadyH.cons (o := ihf15) rfl (fun K hK => ?_) AllReadyH.nil
          unfold ihf15
          go_simp
          rw [← LV.out]
          refine hK.out _ _ ⟨NK.out _ PO.out.1.low, PO.out.2⟩ (fun _ => ?_)
          clear hK K
          try simp only [ihf15, Act.put, List.setIfInBounds_toArray, List.set_cons_succ, List.set_cons_zero]
          refine wpAnyH_done (by kernel_rfl) ?_ _
          go_wp2
          go_meet
          exact ⟨_, _, _, _, _, _, _, rfl, PO.out.1⟩
        · obtain ⟨X35, hX35⟩ : ∃ W, X30.alloc (.cells #[] 3) = W := ⟨_, rfl⟩
          have bX35 : Below X30.heap.size X30 X35 := by rw [← hX35]; exact (Below.refl _ _).alloc (Nat.le_refl _) _
          have BX35 : Hid (Below w1.heap.size w1 X35) := BX30.out.trans (bX35.mono BX30.out.size)
          have N6 : Hid (¬ (X1.heap.size = X30.heap.size)) := by show ¬ _; have := row_lt B14.out.row; omega
          have R2 := Hid.mk' (R2.out.keep bX35)
          have B14 := Hid.mk' (B14.out.keep bX35)
          have E6 : Hid (Em w1 X35 X30.heap.size) := by show Em _ _ _; rw [← hX35]; exact Em.made BX30.out.size
          unfold ihf6
          go_simp
          try rw [hX35]
          refine hK.out _ _ (NK.out _ BX35.out) (fun _ => ?_)
          clear hK K
          try simp only [ihf6, Act.put, List.setIfInBounds_toArray, List.set_cons_succ, List.set_cons_zero]
          clear hX35 bX35
          refine wpAnyH_ready (rs := [3]) (by kernel_rfl) (by simp) ?_
          refine AllReadyH.cons (o := ihf3) rfl (fun K hK => ?_) AllReadyH.nil
          unfold ihf3
          go_simp
          refine (rcopy_any (some ⟨X0.heap.size, 0, none⟩) 1 1 [⟨p, c, s, live⟩] X35 R2.out rfl (by omega) (fun t ht => by simp at ht; subst ht; exact HLV.out)).mono ?_
          rintro e X36 ⟨a3, c3, rfl, t3, bX36⟩
          obtain ⟨gA, la2, lc2, rfl, jj⟩ := sp1_of t3 BX35.out.size
          go_wp2_with fail
          have BX36 : Hid (Below w1.heap.size w1 X36) := BX35.out.trans (bX36.mono BX35.out.size)
          have NG : Hid (¬ (gA = X30.heap.size)) := by show ¬ _; have := E6.out.lt; have := jj.2.1; omega
          have NLA : Hid (∀ ad, la2 = some ad → ¬ (ad.block = X30.heap.size)) := fun ad e => by have := E6.out.lt; have := jj.2.2 ad e; omega
          have NA : Hid (¬ (gA = X1.heap.size)) := by show ¬ _; have := row_lt B14.out.row; have := jj.2.1; omega
          have E6 := Hid.mk' (E6.out.keep bX36)
          have B14 := Hid.mk' (B14.out.keep bX36)
          have S3 : Hid (Sp1 w1 X36 p c s live gA la2 lc2) := jj.1
          refine hK.out _ _ (NK.out _ BX36.out) (fun _ => ?_)
          clear hK K
          try simp only [ihf3, Act.put, List.setIfInBounds_toArray, List.set_cons_succ, List.set_cons_zero]
          clear jj t3 bX36
          refine wpAnyH_strong (S2 := (fun wz => (wz.cell? ⟨w.heap.size, 0, none⟩ = some (.int .i64 p) ∧ wz.cell? ⟨w.heap.size, 1, none⟩ = some (.int .i64 c) ∧ wz.cell? ⟨w.heap.size, 2, none⟩ = some (.int .i64 s) ∧ wz.cell? ⟨w.heap.size, 3, none⟩ = some (.slice la live.length lc) ∧ wz.cell? ⟨w.heap.size, 4, none⟩ = some (.int .i64 base) ∧ wz.cell? ⟨w.heap.size, 5, none⟩ = some (.slice oa offs.length oc) ∧ wz.cell? ⟨w.heap.size, 6, none⟩ = some (.slice ba bytes.length bc)) ∧ (wz.cell? ⟨gA, 0, none⟩ = some (.int .i64 p) ∧ wz.cell? ⟨gA, 1, none⟩ = some (.int .i64 c) ∧ wz.cell? ⟨gA, 2, none⟩ = some (.int .i64 s) ∧ wz.cell? ⟨gA, 3, none⟩ = some (.slice la2 live.length lc2)))) (fun _ q => q.1) _ _ _ _ ?_
          refine wpAnyH_take (i := 4) (oi := ihf4) (v := .pointer (some ⟨gA, 0, none⟩)) rfl (by kernel_rfl) (by kernel_rfl) (by kernel_rfl) (fun _ _ _ h => h) (.inl ⟨rfl, by intro wz hz; obtain ⟨⟨q0, q1, q2, q3, q4, q5, q6⟩, ⟨h0, h1, h2, h3⟩⟩ := hz; unfold ihf4; go_simp⟩) ⟨NK.out _ BX36.out, S3.out.j⟩ ?_
          simp only [ihf4, Act.put, List.setIfInBounds_toArray, List.set_cons_succ, List.set_cons_zero]
          refine wpAnyH_take (i := 5) (oi := ihf5) (v := .agg #[.int .i64 p, .int .i64 c, .int .i64 s, .slice la2 live.length lc2]) rfl (by kernel_rfl) (by kernel_rfl) (by kernel_rfl) (fun _ _ _ h => h) (.inl ⟨rfl, by intro wz hz; obtain ⟨⟨q0, q1, q2, q3, q4, q5, q6⟩, ⟨h0, h1, h2, h3⟩⟩ := hz; unfold ihf5; go_simp⟩) ⟨NK.out _ BX36.out, S3.out.j⟩ ?_
          simp only [ihf5, Act.put, List.setIfInBounds_toArray, List.set_cons_succ, List.set_cons_zero]
          refine wpAnyH_ready (rs := [9]) (by kernel_rfl) (by simp) ?_
          refine AllReadyH.cons (o := ihf9) rfl (fun K hK => ?_) AllReadyH.nil
          obtain ⟨a9, c9, X37, hrun, o9, tu⟩ := appAll_run w1.heap.size X36 BX36.out.size (X30.heap.size) E6.out.own oa offs offs.length oc rfl (IO.out.keep BX36.out) HOF.out
          have BX37 : Hid (Below w1.heap.size w1 X37) := BX36.out.trans (tu.below (fun i e => by rw [e]; exact E6.out.ge) BX36.out.size)
          have S3 := Hid.mk' (S3.out.tu tu NG.out NLA.out VI.out)
          have B14 := Hid.mk' (B14.out.tu tu N6.out)
          have O9 : Hid (OwnsI X37 w1.heap.size a9 offs c9) := o9
          refine step_app rfl _ _ 22 rfl (.slice (some ⟨X30.heap.size, 0, none⟩) 0 0) (.slice oa offs.length oc) rfl rfl _ _ hrun ?_
          refine hK.out _ _ ⟨NK.out _ BX37.out, S3.out.j⟩ (fun _ => ?_)
          clear hK K
          try simp only [ihf9, Act.put, List.setIfInBounds_toArray, List.set_cons_succ, List.set_cons_zero]
          clear hrun o9 tu
          refine wpAnyH_ready (rs := [12]) (by kernel_rfl) (by simp) ?_
          refine AllReadyH.cons (o := ihf12) rfl (fun K hK => ?_) AllReadyH.nil
          unfold ihf12
          go_simp
          refine (copy_any ba bc bytes.length bytes X37 rfl (IB.out.keep BX37.out) HBY.out).mono ?_
          rintro e X38 ⟨g12, c12, rfl, o12, bX38⟩
          go_wp2_with fail
          have BX38 : Hid (Below w1.heap.size w1 X38) := BX37.out.trans (bX38.mono BX37.out.size)
          have S3 := Hid.mk' (S3.out.keep bX38)
          have B14 := Hid.mk' (B14.out.keep bX38)
          have O9 := Hid.mk' (OwnsI.keep O9.out bX38)
          have Y12 : Hid (OwnsB X38 w1.heap.size (some ⟨g12, 0, none⟩) bytes c12) := OwnsB.mono o12 BX37.out.size
          refine hK.out _ _ ⟨NK.out _ BX38.out, S3.out.j⟩ (fun _ => ?_)
          clear hK K
          try simp only [ihf12, Act.put, List.setIfInBounds_toArray, List.set_cons_succ, List.set_cons_zero]
          clear o12 bX38
          refine wpAnyH_take (i := 13) (oi := ihf13) (v := .agg #[.int .i64 p, .int .i64 c, .int .i64 s, .slice la2 live.length lc2, .int .i64 0, .slice a9 offs.length c9, .slice (some ⟨g12, 0, none⟩) bytes.length c12]) rfl (by kernel_rfl) (by kernel_rfl) (by kernel_rfl) (fun _ _ _ h => h) (.inl ⟨rfl, by intro wz hz; obtain ⟨⟨q0, q1, q2, q3, q4, q5, q6⟩, ⟨h0, h1, h2, h3⟩⟩ := hz; unfold ihf13; go_simp⟩) ⟨NK.out _ BX38.out, S3.out.j⟩ ?_
          simp only [ihf13, Act.put, List.setIfInBounds_toArray, List.set_cons_succ, List.set_cons_zero]
          obtain ⟨m0, m1, m2, m3, m4, m5, m6⟩ := icell B14.out.row
          have f00 := ithawed B14.out.row 0
          have f01 := ithawed B14.out.row 1
          have f02 := ithawed B14.out.row 2
          have f03 := ithawed B14.out.row 3
          have f04 := ithawed B14.out.row 4
          have f05 := ithawed B14.out.row 5
          have f06 := ithawed B14.out.row 6
          obtain ⟨LW, hLW⟩ : ∃ LW, lay7 X38 (X1.heap.size) (.int .i64 p) (.int .i64 c) (.int .i64 s) (.slice la2 live.length lc2) (.int .i64 0) (.slice a9 offs.length c9) (.slice (some ⟨g12, 0, none⟩) bytes.length c12) = LW := ⟨_, rfl⟩
          have LV : Hid (LW = (((((((X38.setCell ⟨X1.heap.size, 0, none⟩ (.int .i64 p)).setCell ⟨X1.heap.size, 1, none⟩ (.int .i64 c)).setCell ⟨X1.heap.size, 2, none⟩ (.int .i64 s)).setCell ⟨X1.heap.size, 3, none⟩ (.slice la2 live.length lc2)).setCell ⟨X1.heap.size, 4, none⟩ (.int .i64 0)).setCell ⟨X1.heap.size, 5, none⟩ (.slice a9 offs.length c9)).setCell ⟨X1.heap.size, 6, none⟩ (.slice (some ⟨g12, 0, none⟩) bytes.length c12))) := by show _ = _; rw [← hLW]; rfl
          have PO : Hid (MvP w1 LW (X1.heap.size) p c s 0 la2 lc2 a9 c9 (some ⟨g12, 0, none⟩) c12 live offs bytes ∧ (LW.cell? ⟨gA, 0, none⟩ = some (.int .i64 p) ∧ LW.cell? ⟨gA, 1, none⟩ = some (.int .i64 c) ∧ LW.cell? ⟨gA, 2, none⟩ = some (.int .i64 s) ∧ LW.cell? ⟨gA, 3, none⟩ = some (.slice la2 live.length lc2))) := by show _ ∧ _; rw [← hLW]; exact mvP_lay BX38.out S3.out B14.out O9.out Y12.out NA.out VI.out VO.out AY.out
          clear hLW
          refine wpAnyH_ready (rs := [15]) (by kernel_rfl) (by simp) ?_
          refine AllReadyH.cons (o := ihf15) rfl (fun K hK => ?_) AllReadyH.nil
          unfold ihf15
          go_simp
          rw [← LV.out]
          refine hK.out _ _ ⟨NK.out _ PO.out.1.low, PO.out.2⟩ (fun _ => ?_)
          clear hK K
          try simp only [ihf15, Act.put, List.setIfInBounds_toArray, List.set_cons_succ, List.set_cons_zero]
          refine wpAnyH_done (by kernel_rfl) ?_ _
          go_wp2
          go_meet
          exact ⟨_, _, _, _, _, _, _, rfl, PO.out.1⟩
    · obtain ⟨X39, hX39⟩ : ∃ W, X0.alloc (.cells #[] 3) = W := ⟨_, rfl⟩
      have bX39 : Below X0.heap.size X0 X39 := by rw [← hX39]; exact (Below.refl _ _).alloc (Nat.le_refl _) _
      have BX39 : Hid (Below w1.heap.size w1 X39) := BX0.out.trans (bX39.mono BX0.out.size)
      have E6 : Hid (Em w1 X39 X0.heap.size) := by show Em _ _ _; rw [← hX39]; exact Em.made BX0.out.size
      unfold ihf6
      go_simp
      try rw [hX39]
      refine hK.out _ _ (NK.out _ BX39.out) (fun _ => ?_)
      clear hK K
      try simp only [ihf6, Act.put, List.setIfInBounds_toArray, List.set_cons_succ, List.set_cons_zero]
      clear hX39 bX39
      refine wpAnyH_ready (rs := [2, 14]) (by kernel_rfl) (by simp) ?_
      refine AllReadyH.cons (o := ihf2) rfl (fun K hK => ?_) (AllReadyH.cons (o := ihf14) rfl (fun K hK => ?_) AllReadyH.nil)
      · obtain ⟨X40, hX40, zX40, rX40, bX40⟩ := dbox X39 p c s la live.length lc
        have BX40 : Hid (Below w1.heap.size w1 X40) := BX39.out.trans (bX40.mono BX39.out.size)
        have E6 := Hid.mk' (E6.out.keep bX40)
        have R2 : Hid (RdT X40 (some ⟨X39.heap.size, 0, none⟩) [⟨p, c, s, live⟩]) := rdT_one (dcell0 rX40) (dcell1 rX40) (dcell2 rX40) (dcell3 rX40) (IL.out.keep BX40.out) LM.out
        unfold ihf2
        go_simp
        try rw [hX40]
        refine hK.out _ _ (NK.out _ BX40.out) (fun _ => ?_)
        clear hK K
        try simp only [ihf2, Act.put, List.setIfInBounds_toArray, List.set_cons_succ, List.set_cons_zero]
        clear hX40 zX40 rX40 bX40
        refine wpAnyH_ready (rs := [3, 14]) (by kernel_rfl) (by simp) ?_
        refine AllReadyH.cons (o := ihf3) rfl (fun K hK => ?_) (AllReadyH.cons (o := ihf14) rfl (fun K hK => ?_) AllReadyH.nil)
        · unfold ihf3
          go_simp
          refine (rcopy_any (some ⟨X39.heap.size, 0, none⟩) 1 1 [⟨p, c, s, live⟩] X40 R2.out rfl (by omega) (fun t ht => by simp at ht; subst ht; exact HLV.out)).mono ?_
          rintro e X41 ⟨a3, c3, rfl, t3, bX41⟩
          obtain ⟨gA, la2, lc2, rfl, jj⟩ := sp1_of t3 BX40.out.size
          go_wp2_with fail
          have BX41 : Hid (Below w1.heap.size w1 X41) := BX40.out.trans (bX41.mono BX40.out.size)
          have NG : Hid (¬ (gA = X0.heap.size)) := by show ¬ _; have := E6.out.lt; have := jj.2.1; omega
          have NLA : Hid (∀ ad, la2 = some ad → ¬ (ad.block = X0.heap.size)) := fun ad e => by have := E6.out.lt; have := jj.2.2 ad e; omega
          have E6 := Hid.mk' (E6.out.keep bX41)
          have S3 : Hid (Sp1 w1 X41 p c s live gA la2 lc2) := jj.1
          refine hK.out _ _ (NK.out _ BX41.out) (fun _ => ?_)
          clear hK K
          try simp only [ihf3, Act.put, List.setIfInBounds_toArray, List.set_cons_succ, List.set_cons_zero]
          clear jj t3 bX41
          refine wpAnyH_strong (S2 := (fun wz => (wz.cell? ⟨w.heap.size, 0, none⟩ = some (.int .i64 p) ∧ wz.cell? ⟨w.heap.size, 1, none⟩ = some (.int .i64 c) ∧ wz.cell? ⟨w.heap.size, 2, none⟩ = some (.int .i64 s) ∧ wz.cell? ⟨w.heap.size, 3, none⟩ = some (.slice la live.length lc) ∧ wz.cell? ⟨w.heap.size, 4, none⟩ = some (.int .i64 base) ∧ wz.cell? ⟨w.heap.size, 5, none⟩ = some (.slice oa offs.length oc) ∧ wz.cell? ⟨w.heap.size, 6, none⟩ = some (.slice ba bytes.length bc)) ∧ (wz.cell? ⟨gA, 0, none⟩ = some (.int .i64 p) ∧ wz.cell? ⟨gA, 1, none⟩ = some (.int .i64 c) ∧ wz.cell? ⟨gA, 2, none⟩ = some (.int .i64 s) ∧ wz.cell? ⟨gA, 3, none⟩ = some (.slice la2 live.length lc2)))) (fun _ q => q.1) _ _ _ _ ?_
          refine wpAnyH_take (i := 4) (oi := ihf4) (v := .pointer (some ⟨gA, 0, none⟩)) rfl (by kernel_rfl) (by kernel_rfl) (by kernel_rfl) (fun _ _ _ h => h) (.inl ⟨rfl, by intro wz hz; obtain ⟨⟨q0, q1, q2, q3, q4, q5, q6⟩, ⟨h0, h1, h2, h3⟩⟩ := hz; unfold ihf4; go_simp⟩) ⟨NK.out _ BX41.out, S3.out.j⟩ ?_
          simp only [ihf4, Act.put, List.setIfInBounds_toArray, List.set_cons_succ, List.set_cons_zero]
          refine wpAnyH_take (i := 5) (oi := ihf5) (v := .agg #[.int .i64 p, .int .i64 c, .int .i64 s, .slice la2 live.length lc2]) rfl (by kernel_rfl) (by kernel_rfl) (by kernel_rfl) (fun _ _ _ h => h) (.inl ⟨rfl, by intro wz hz; obtain ⟨⟨q0, q1, q2, q3, q4, q5, q6⟩, ⟨h0, h1, h2, h3⟩⟩ := hz; unfold ihf5; go_simp⟩) ⟨NK.out _ BX41.out, S3.out.j⟩ ?_
          simp only [ihf5, Act.put, List.setIfInBounds_toArray, List.set_cons_succ, List.set_cons_zero]
          refine wpAnyH_ready (rs := [9, 14]) (by kernel_rfl) (by simp) ?_
          refine AllReadyH.cons (o := ihf9) rfl (fun K hK => ?_) (AllReadyH.cons (o := ihf14) rfl (fun K hK => ?_) AllReadyH.nil)
          · obtain ⟨a9, c9, X42, hrun, o9, tu⟩ := appAll_run w1.heap.size X41 BX41.out.size (X0.heap.size) E6.out.own oa offs offs.length oc rfl (IO.out.keep BX41.out) HOF.out
            have BX42 : Hid (Below w1.heap.size w1 X42) := BX41.out.trans (tu.below (fun i e => by rw [e]; exact E6.out.ge) BX41.out.size)
            have S3 := Hid.mk' (S3.out.tu tu NG.out NLA.out VI.out)
            have O9 : Hid (OwnsI X42 w1.heap.size a9 offs c9) := o9
            refine step_app rfl _ _ 22 rfl (.slice (some ⟨X0.heap.size, 0, none⟩) 0 0) (.slice oa offs.length oc) rfl rfl _ _ hrun ?_
            refine hK.out _ _ ⟨NK.out _ BX42.out, S3.out.j⟩ (fun _ => ?_)
            clear hK K
            try simp only [ihf9, Act.put, List.setIfInBounds_toArray, List.set_cons_succ, List.set_cons_zero]
            clear hrun o9 tu
            refine wpAnyH_ready (rs := [12, 14]) (by kernel_rfl) (by simp) ?_
            refine AllReadyH.cons (o := ihf12) rfl (fun K hK => ?_) (AllReadyH.cons (o := ihf14) rfl (fun K hK => ?_) AllReadyH.nil)
            · unfold ihf12
              go_simp
              refine (copy_any ba bc bytes.length bytes X42 rfl (IB.out.keep BX42.out) HBY.out).mono ?_
              rintro e X43 ⟨g12, c12, rfl, o12, bX43⟩
              go_wp2_with fail
              have BX43 : Hid (Below w1.heap.size w1 X43) := BX42.out.trans (bX43.mono BX42.out.size)
              have S3 := Hid.mk' (S3.out.keep bX43)
              have O9 := Hid.mk' (OwnsI.keep O9.out bX43)
              have Y12 : Hid (OwnsB X43 w1.heap.size (some ⟨g12, 0, none⟩) bytes c12) := OwnsB.mono o12 BX42.out.size
              refine hK.out _ _ ⟨NK.out _ BX43.out, S3.out.j⟩ (fun _ => ?_)
              clear hK K
              try simp only [ihf12, Act.put, List.setIfInBounds_toArray, List.set_cons_succ, List.set_cons_zero]
              clear o12 bX43
              refine wpAnyH_take (i := 13) (oi := ihf13) (v := .agg #[.int .i64 p, .int .i64 c, .int .i64 s, .slice la2 live.length lc2, .int .i64 0, .slice a9 offs.length c9, .slice (some ⟨g12, 0, none⟩) bytes.length c12]) rfl (by kernel_rfl) (by kernel_rfl) (by kernel_rfl) (fun _ _ _ h => h) (.inl ⟨rfl, by intro wz hz; obtain ⟨⟨q0, q1, q2, q3, q4, q5, q6⟩, ⟨h0, h1, h2, h3⟩⟩ := hz; unfold ihf13; go_simp⟩) ⟨NK.out _ BX43.out, S3.out.j⟩ ?_
              simp only [ihf13, Act.put, List.setIfInBounds_toArray, List.set_cons_succ, List.set_cons_zero]
              refine wpAnyH_ready (rs := [14]) (by kernel_rfl) (by simp) ?_
              refine AllReadyH.cons (o := ihf14) rfl (fun K hK => ?_) AllReadyH.nil
              obtain ⟨X44, hX44, zX44, rX44, bX44⟩ := ibox 34 X43 0 0 0 none 0 0 0 none 0 0 none 0 0
              have BX44 : Hid (Below w1.heap.size w1 X44) := BX43.out.trans (bX44.mono BX43.out.size)
              have NA : Hid (¬ (gA = X43.heap.size)) := by show ¬ _; have := S3.out.lt; omega
              have S3 := Hid.mk' (S3.out.keep bX44)
              have O9 := Hid.mk' (OwnsI.keep O9.out bX44)
              have Y12 := Hid.mk' (OwnsB.keep Y12.out bX44)
              have B14 : Hid (Bo w1 X44 X43.heap.size) := ⟨BX43.out.size, rX44⟩
              unfold ihf14
              go_simp
              try rw [hX44]
              refine hK.out _ _ ⟨NK.out _ BX44.out, S3.out.j⟩ (fun _ => ?_)
              clear hK K
              try simp only [ihf14, Act.put, List.setIfInBounds_toArray, List.set_cons_succ, List.set_cons_zero]
              clear hX44 zX44 rX44 bX44
              obtain ⟨m0, m1, m2, m3, m4, m5, m6⟩ := icell B14.out.row
              have f00 := ithawed B14.out.row 0
              have f01 := ithawed B14.out.row 1
              have f02 := ithawed B14.out.row 2
              have f03 := ithawed B14.out.row 3
              have f04 := ithawed B14.out.row 4
              have f05 := ithawed B14.out.row 5
              have f06 := ithawed B14.out.row 6
              obtain ⟨LW, hLW⟩ : ∃ LW, lay7 X44 (X43.heap.size) (.int .i64 p) (.int .i64 c) (.int .i64 s) (.slice la2 live.length lc2) (.int .i64 0) (.slice a9 offs.length c9) (.slice (some ⟨g12, 0, none⟩) bytes.length c12) = LW := ⟨_, rfl⟩
              have LV : Hid (LW = (((((((X44.setCell ⟨X43.heap.size, 0, none⟩ (.int .i64 p)).setCell ⟨X43.heap.size, 1, none⟩ (.int .i64 c)).setCell ⟨X43.heap.size, 2, none⟩ (.int .i64 s)).setCell ⟨X43.heap.size, 3, none⟩ (.slice la2 live.length lc2)).setCell ⟨X43.heap.size, 4, none⟩ (.int .i64 0)).setCell ⟨X43.heap.size, 5, none⟩ (.slice a9 offs.length c9)).setCell ⟨X43.heap.size, 6, none⟩ (.slice (some ⟨g12, 0, none⟩) bytes.length c12))) := by show _ = _; rw [← hLW]; rfl
              have PO : Hid (MvP w1 LW (X43.heap.size) p c s 0 la2 lc2 a9 c9 (some ⟨g12, 0, none⟩) c12 live offs bytes ∧ (LW.cell? ⟨gA, 0, none⟩ = some (.int .i64 p) ∧ LW.cell? ⟨gA, 1, none⟩ = some (.int .i64 c) ∧ LW.cell? ⟨gA, 2, none⟩ = some (.int .i64 s) ∧ LW.cell? ⟨gA, 3, none⟩ = some (.slice la2 live.length lc2))) := by show _ ∧ _; rw [← hLW]; exact mvP_lay BX44.out S3.out B14.out O9.out Y12.out NA.out VI.out VO.out AY.out
              clear hLW
              refine wpAnyH_ready (rs := [15]) (by kernel_rfl) (by simp) ?_
              refine AllReadyH.cons (o := ihf15) rfl (fun K hK => ?_) AllReadyH.nil
              unfold ihf15
              go_simp
              rw [← LV.out]
              refine hK.out _ _ ⟨NK.out _ PO.out.1.low, PO.out.2⟩ (fun _ => ?_)
              clear hK K
              try simp only [ihf15, Act.put, List.setIfInBounds_toArray, List.set_cons_succ, List.set_cons_zero]
              refine wpAnyH_done (by kernel_rfl) ?_ _
              go_wp2
              go_meet
              exact ⟨_, _, _, _, _, _, _, rfl, PO.out.1⟩
            · obtain ⟨X45, hX45, zX45, rX45, bX45⟩ := ibox 34 X42 0 0 0 none 0 0 0 none 0 0 none 0 0
              have BX45 : Hid (Below w1.heap.size w1 X45) := BX42.out.trans (bX45.mono BX42.out.size)
              have NA : Hid (¬ (gA = X42.heap.size)) := by show ¬ _; have := S3.out.lt; omega
              have S3 := Hid.mk' (S3.out.keep bX45)
              have O9 := Hid.mk' (OwnsI.keep O9.out bX45)
              have B14 : Hid (Bo w1 X45 X42.heap.size) := ⟨BX42.out.size, rX45⟩
              unfold ihf14
              go_simp
              try rw [hX45]
              refine hK.out _ _ ⟨NK.out _ BX45.out, S3.out.j⟩ (fun _ => ?_)
              clear hK K
              try simp only [ihf14, Act.put, List.setIfInBounds_toArray, List.set_cons_succ, List.set_cons_zero]
              clear hX45 zX45 rX45 bX45
              refine wpAnyH_ready (rs := [12]) (by kernel_rfl) (by simp) ?_
              refine AllReadyH.cons (o := ihf12) rfl (fun K hK => ?_) AllReadyH.nil
              unfold ihf12
              go_simp
              refine (copy_any ba bc bytes.length bytes X45 rfl (IB.out.keep BX45.out) HBY.out).mono ?_
              rintro e X46 ⟨g12, c12, rfl, o12, bX46⟩
              go_wp2_with fail
              have BX46 : Hid (Below w1.heap.size w1 X46) := BX45.out.trans (bX46.mono BX45.out.size)
              have S3 := Hid.mk' (S3.out.keep bX46)
              have B14 := Hid.mk' (B14.out.keep bX46)
              have O9 := Hid.mk' (OwnsI.keep O9.out bX46)
              have Y12 : Hid (OwnsB X46 w1.heap.size (some ⟨g12, 0, none⟩) bytes c12) := OwnsB.mono o12 BX45.out.size
              refine hK.out _ _ ⟨NK.out _ BX46.out, S3.out.j⟩ (fun _ => ?_)
              clear hK K
              try simp only [ihf12, Act.put, List.setIfInBounds_toArray, List.set_cons_succ, List.set_cons_zero]
              clear o12 bX46
              refine wpAnyH_take (i := 13) (oi := ihf13) (v := .agg #[.int .i64 p, .int .i64 c, .int .i64 s, .slice la2 live.length lc2, .int .i64 0, .slice a9 offs.length c9, .slice (some ⟨g12, 0, none⟩) bytes.length c12]) rfl (by kernel_rfl) (by kernel_rfl) (by kernel_rfl) (fun _ _ _ h => h) (.inl ⟨rfl, by intro wz hz; obtain ⟨⟨q0, q1, q2, q3, q4, q5, q6⟩, ⟨h0, h1, h2, h3⟩⟩ := hz; unfold ihf13; go_simp⟩) ⟨NK.out _ BX46.out, S3.out.j⟩ ?_
              simp only [ihf13, Act.put, List.setIfInBounds_toArray, List.set_cons_succ, List.set_cons_zero]
              obtain ⟨m0, m1, m2, m3, m4, m5, m6⟩ := icell B14.out.row
              have f00 := ithawed B14.out.row 0
              have f01 := ithawed B14.out.row 1
              have f02 := ithawed B14.out.row 2
              have f03 := ithawed B14.out.row 3
              have f04 := ithawed B14.out.row 4
              have f05 := ithawed B14.out.row 5
              have f06 := ithawed B14.out.row 6
              obtain ⟨LW, hLW⟩ : ∃ LW, lay7 X46 (X42.heap.size) (.int .i64 p) (.int .i64 c) (.int .i64 s) (.slice la2 live.length lc2) (.int .i64 0) (.slice a9 offs.length c9) (.slice (some ⟨g12, 0, none⟩) bytes.length c12) = LW := ⟨_, rfl⟩
              have LV : Hid (LW = (((((((X46.setCell ⟨X42.heap.size, 0, none⟩ (.int .i64 p)).setCell ⟨X42.heap.size, 1, none⟩ (.int .i64 c)).setCell ⟨X42.heap.size, 2, none⟩ (.int .i64 s)).setCell ⟨X42.heap.size, 3, none⟩ (.slice la2 live.length lc2)).setCell ⟨X42.heap.size, 4, none⟩ (.int .i64 0)).setCell ⟨X42.heap.size, 5, none⟩ (.slice a9 offs.length c9)).setCell ⟨X42.heap.size, 6, none⟩ (.slice (some ⟨g12, 0, none⟩) bytes.length c12))) := by show _ = _; rw [← hLW]; rfl
              have PO : Hid (MvP w1 LW (X42.heap.size) p c s 0 la2 lc2 a9 c9 (some ⟨g12, 0, none⟩) c12 live offs bytes ∧ (LW.cell? ⟨gA, 0, none⟩ = some (.int .i64 p) ∧ LW.cell? ⟨gA, 1, none⟩ = some (.int .i64 c) ∧ LW.cell? ⟨gA, 2, none⟩ = some (.int .i64 s) ∧ LW.cell? ⟨gA, 3, none⟩ = some (.slice la2 live.length lc2))) := by show _ ∧ _; rw [← hLW]; exact mvP_lay BX46.out S3.out B14.out O9.out Y12.out NA.out VI.out VO.out AY.out
              clear hLW
              refine wpAnyH_ready (rs := [15]) (by kernel_rfl) (by simp) ?_
              refine AllReadyH.cons (o := ihf15) rfl (fun K hK => ?_) AllReadyH.nil
              unfold ihf15
              go_simp
              rw [← LV.out]
              refine hK.out _ _ ⟨NK.out _ PO.out.1.low, PO.out.2⟩ (fun _ => ?_)
              clear hK K
              try simp only [ihf15, Act.put, List.setIfInBounds_toArray, List.set_cons_succ, List.set_cons_zero]
              refine wpAnyH_done (by kernel_rfl) ?_ _
              go_wp2
              go_meet
              exact ⟨_, _, _, _, _, _, _, rfl, PO.out.1⟩
          · obtain ⟨X47, hX47, zX47, rX47, bX47⟩ := ibox 34 X41 0 0 0 none 0 0 0 none 0 0 none 0 0
            have BX47 : Hid (Below w1.heap.size w1 X47) := BX41.out.trans (bX47.mono BX41.out.size)
            have NA : Hid (¬ (gA = X41.heap.size)) := by show ¬ _; have := S3.out.lt; omega
            have N6 : Hid (¬ (X41.heap.size = X0.heap.size)) := by show ¬ _; have := E6.out.lt; omega
            have S3 := Hid.mk' (S3.out.keep bX47)
            have E6 := Hid.mk' (E6.out.keep bX47)
            have B14 : Hid (Bo w1 X47 X41.heap.size) := ⟨BX41.out.size, rX47⟩
            unfold ihf14
            go_simp
            try rw [hX47]
            refine hK.out _ _ ⟨NK.out _ BX47.out, S3.out.j⟩ (fun _ => ?_)
            clear hK K
            try simp only [ihf14, Act.put, List.setIfInBounds_toArray, List.set_cons_succ, List.set_cons_zero]
            clear hX47 zX47 rX47 bX47
            refine wpAnyH_ready (rs := [9]) (by kernel_rfl) (by simp) ?_
            refine AllReadyH.cons (o := ihf9) rfl (fun K hK => ?_) AllReadyH.nil
            obtain ⟨a9, c9, X48, hrun, o9, tu⟩ := appAll_run w1.heap.size X47 BX47.out.size (X0.heap.size) E6.out.own oa offs offs.length oc rfl (IO.out.keep BX47.out) HOF.out
            have BX48 : Hid (Below w1.heap.size w1 X48) := BX47.out.trans (tu.below (fun i e => by rw [e]; exact E6.out.ge) BX47.out.size)
            have S3 := Hid.mk' (S3.out.tu tu NG.out NLA.out VI.out)
            have B14 := Hid.mk' (B14.out.tu tu N6.out)
            have O9 : Hid (OwnsI X48 w1.heap.size a9 offs c9) := o9
            refine step_app rfl _ _ 22 rfl (.slice (some ⟨X0.heap.size, 0, none⟩) 0 0) (.slice oa offs.length oc) rfl rfl _ _ hrun ?_
            refine hK.out _ _ ⟨NK.out _ BX48.out, S3.out.j⟩ (fun _ => ?_)
            clear hK K
            try simp only [ihf9, Act.put, List.setIfInBounds_toArray, List.set_cons_succ, List.set_cons_zero]
            clear hrun o9 tu
            refine wpAnyH_ready (rs := [12]) (by kernel_rfl) (by simp) ?_
            refine AllReadyH.cons (o := ihf12) rfl (fun K hK => ?_) AllReadyH.nil
            unfold ihf12
            go_simp
            refine (copy_any ba bc bytes.length bytes X48 rfl (IB.out.keep BX48.out) HBY.out).mono ?_
            rintro e X49 ⟨g12, c12, rfl, o12, bX49⟩
            go_wp2_with fail
            have BX49 : Hid (Below w1.heap.size w1 X49) := BX48.out.trans (bX49.mono BX48.out.size)
            have S3 := Hid.mk' (S3.out.keep bX49)
            have B14 := Hid.mk' (B14.out.keep bX49)
            have O9 := Hid.mk' (OwnsI.keep O9.out bX49)
            have Y12 : Hid (OwnsB X49 w1.heap.size (some ⟨g12, 0, none⟩) bytes c12) := OwnsB.mono o12 BX48.out.size
            refine hK.out _ _ ⟨NK.out _ BX49.out, S3.out.j⟩ (fun _ => ?_)
            clear hK K
            try simp only [ihf12, Act.put, List.setIfInBounds_toArray, List.set_cons_succ, List.set_cons_zero]
            clear o12 bX49
            refine wpAnyH_take (i := 13) (oi := ihf13) (v := .agg #[.int .i64 p, .int .i64 c, .int .i64 s, .slice la2 live.length lc2, .int .i64 0, .slice a9 offs.length c9, .slice (some ⟨g12, 0, none⟩) bytes.length c12]) rfl (by kernel_rfl) (by kernel_rfl) (by kernel_rfl) (fun _ _ _ h => h) (.inl ⟨rfl, by intro wz hz; obtain ⟨⟨q0, q1, q2, q3, q4, q5, q6⟩, ⟨h0, h1, h2, h3⟩⟩ := hz; unfold ihf13; go_simp⟩) ⟨NK.out _ BX49.out, S3.out.j⟩ ?_
            simp only [ihf13, Act.put, List.setIfInBounds_toArray, List.set_cons_succ, List.set_cons_zero]
            obtain ⟨m0, m1, m2, m3, m4, m5, m6⟩ := icell B14.out.row
            have f00 := ithawed B14.out.row 0
            have f01 := ithawed B14.out.row 1
            have f02 := ithawed B14.out.row 2
            have f03 := ithawed B14.out.row 3
            have f04 := ithawed B14.out.row 4
            have f05 := ithawed B14.out.row 5
            have f06 := ithawed B14.out.row 6
            obtain ⟨LW, hLW⟩ : ∃ LW, lay7 X49 (X41.heap.size) (.int .i64 p) (.int .i64 c) (.int .i64 s) (.slice la2 live.length lc2) (.int .i64 0) (.slice a9 offs.length c9) (.slice (some ⟨g12, 0, none⟩) bytes.length c12) = LW := ⟨_, rfl⟩
            have LV : Hid (LW = (((((((X49.setCell ⟨X41.heap.size, 0, none⟩ (.int .i64 p)).setCell ⟨X41.heap.size, 1, none⟩ (.int .i64 c)).setCell ⟨X41.heap.size, 2, none⟩ (.int .i64 s)).setCell ⟨X41.heap.size, 3, none⟩ (.slice la2 live.length lc2)).setCell ⟨X41.heap.size, 4, none⟩ (.int .i64 0)).setCell ⟨X41.heap.size, 5, none⟩ (.slice a9 offs.length c9)).setCell ⟨X41.heap.size, 6, none⟩ (.slice (some ⟨g12, 0, none⟩) bytes.length c12))) := by show _ = _; rw [← hLW]; rfl
            have PO : Hid (MvP w1 LW (X41.heap.size) p c s 0 la2 lc2 a9 c9 (some ⟨g12, 0, none⟩) c12 live offs bytes ∧ (LW.cell? ⟨gA, 0, none⟩ = some (.int .i64 p) ∧ LW.cell? ⟨gA, 1, none⟩ = some (.int .i64 c) ∧ LW.cell? ⟨gA, 2, none⟩ = some (.int .i64 s) ∧ LW.cell? ⟨gA, 3, none⟩ = some (.slice la2 live.length lc2))) := by show _ ∧ _; rw [← hLW]; exact mvP_lay BX49.out S3.out B14.out O9.out Y12.out NA.out VI.out VO.out AY.out
            clear hLW
            refine wpAnyH_ready (rs := [15]) (by kernel_rfl) (by simp) ?_
            refine AllReadyH.cons (o := ihf15) rfl (fun K hK => ?_) AllReadyH.nil
            unfold ihf15
            go_simp
            rw [← LV.out]
            refine hK.out _ _ ⟨NK.out _ PO.out.1.low, PO.out.2⟩ (fun _ => ?_)
            clear hK K
            try simp only [ihf15, Act.put, List.setIfInBounds_toArray, List.set_cons_succ, List.set_cons_zero]
            refine wpAnyH_done (by kernel_rfl) ?_ _
            go_wp2
            go_meet
            exact ⟨_, _, _, _, _, _, _, rfl, PO.out.1⟩
        · obtain ⟨X50, hX50, zX50, rX50, bX50⟩ := ibox 34 X40 0 0 0 none 0 0 0 none 0 0 none 0 0
          have BX50 : Hid (Below w1.heap.size w1 X50) := BX40.out.trans (bX50.mono BX40.out.size)
          have N6 : Hid (¬ (X40.heap.size = X0.heap.size)) := by show ¬ _; have := E6.out.lt; omega
          have R2 := Hid.mk' (R2.out.keep bX50)
          have E6 := Hid.mk' (E6.out.keep bX50)
          have B14 : Hid (Bo w1 X50 X40.heap.size) := ⟨BX40.out.size, rX50⟩
          unfold ihf14
          go_simp
          try rw [hX50]
          refine hK.out _ _ (NK.out _ BX50.out) (fun _ => ?_)
          clear hK K
          try simp only [ihf14, Act.put, List.setIfInBounds_toArray, List.set_cons_succ, List.set_cons_zero]
          clear hX50 zX50 rX50 bX50
          refine wpAnyH_ready (rs := [3]) (by kernel_rfl) (by simp) ?_
          refine AllReadyH.cons (o := ihf3) rfl (fun K hK => ?_) AllReadyH.nil
          unfold ihf3
          go_simp
          refine (rcopy_any (some ⟨X39.heap.size, 0, none⟩) 1 1 [⟨p, c, s, live⟩] X50 R2.out rfl (by omega) (fun t ht => by simp at ht; subst ht; exact HLV.out)).mono ?_
          rintro e X51 ⟨a3, c3, rfl, t3, bX51⟩
          obtain ⟨gA, la2, lc2, rfl, jj⟩ := sp1_of t3 BX50.out.size
          go_wp2_with fail
          have BX51 : Hid (Below w1.heap.size w1 X51) := BX50.out.trans (bX51.mono BX50.out.size)
          have NG : Hid (¬ (gA = X0.heap.size)) := by show ¬ _; have := E6.out.lt; have := jj.2.1; omega
          have NLA : Hid (∀ ad, la2 = some ad → ¬ (ad.block = X0.heap.size)) := fun ad e => by have := E6.out.lt; have := jj.2.2 ad e; omega
          have NA : Hid (¬ (gA = X40.heap.size)) := by show ¬ _; have := row_lt B14.out.row; have := jj.2.1; omega
          have E6 := Hid.mk' (E6.out.keep bX51)
          have B14 := Hid.mk' (B14.out.keep bX51)
          have S3 : Hid (Sp1 w1 X51 p c s live gA la2 lc2) := jj.1
          refine hK.out _ _ (NK.out _ BX51.out) (fun _ => ?_)
          clear hK K
          try simp only [ihf3, Act.put, List.setIfInBounds_toArray, List.set_cons_succ, List.set_cons_zero]
          clear jj t3 bX51
          refine wpAnyH_strong (S2 := (fun wz => (wz.cell? ⟨w.heap.size, 0, none⟩ = some (.int .i64 p) ∧ wz.cell? ⟨w.heap.size, 1, none⟩ = some (.int .i64 c) ∧ wz.cell? ⟨w.heap.size, 2, none⟩ = some (.int .i64 s) ∧ wz.cell? ⟨w.heap.size, 3, none⟩ = some (.slice la live.length lc) ∧ wz.cell? ⟨w.heap.size, 4, none⟩ = some (.int .i64 base) ∧ wz.cell? ⟨w.heap.size, 5, none⟩ = some (.slice oa offs.length oc) ∧ wz.cell? ⟨w.heap.size, 6, none⟩ = some (.slice ba bytes.length bc)) ∧ (wz.cell? ⟨gA, 0, none⟩ = some (.int .i64 p) ∧ wz.cell? ⟨gA, 1, none⟩ = some (.int .i64 c) ∧ wz.cell? ⟨gA, 2, none⟩ = some (.int .i64 s) ∧ wz.cell? ⟨gA, 3, none⟩ = some (.slice la2 live.length lc2)))) (fun _ q => q.1) _ _ _ _ ?_
          refine wpAnyH_take (i := 4) (oi := ihf4) (v := .pointer (some ⟨gA, 0, none⟩)) rfl (by kernel_rfl) (by kernel_rfl) (by kernel_rfl) (fun _ _ _ h => h) (.inl ⟨rfl, by intro wz hz; obtain ⟨⟨q0, q1, q2, q3, q4, q5, q6⟩, ⟨h0, h1, h2, h3⟩⟩ := hz; unfold ihf4; go_simp⟩) ⟨NK.out _ BX51.out, S3.out.j⟩ ?_
          simp only [ihf4, Act.put, List.setIfInBounds_toArray, List.set_cons_succ, List.set_cons_zero]
          refine wpAnyH_take (i := 5) (oi := ihf5) (v := .agg #[.int .i64 p, .int .i64 c, .int .i64 s, .slice la2 live.length lc2]) rfl (by kernel_rfl) (by kernel_rfl) (by kernel_rfl) (fun _ _ _ h => h) (.inl ⟨rfl, by intro wz hz; obtain ⟨⟨q0, q1, q2, q3, q4, q5, q6⟩, ⟨h0, h1, h2, h3⟩⟩ := hz; unfold ihf5; go_simp⟩) ⟨NK.out _ BX51.out, S3.out.j⟩ ?_
          simp only [ihf5, Act.put, List.setIfInBounds_toArray, List.set_cons_succ, List.set_cons_zero]
          refine wpAnyH_ready (rs := [9]) (by kernel_rfl) (by simp) ?_
          refine AllReadyH.cons (o := ihf9) rfl (fun K hK => ?_) AllReadyH.nil
          obtain ⟨a9, c9, X52, hrun, o9, tu⟩ := appAll_run w1.heap.size X51 BX51.out.size (X0.heap.size) E6.out.own oa offs offs.length oc rfl (IO.out.keep BX51.out) HOF.out
          have BX52 : Hid (Below w1.heap.size w1 X52) := BX51.out.trans (tu.below (fun i e => by rw [e]; exact E6.out.ge) BX51.out.size)
          have S3 := Hid.mk' (S3.out.tu tu NG.out NLA.out VI.out)
          have B14 := Hid.mk' (B14.out.tu tu N6.out)
          have O9 : Hid (OwnsI X52 w1.heap.size a9 offs c9) := o9
          refine step_app rfl _ _ 22 rfl (.slice (some ⟨X0.heap.size, 0, none⟩) 0 0) (.slice oa offs.length oc) rfl rfl _ _ hrun ?_
          refine hK.out _ _ ⟨NK.out _ BX52.out, S3.out.j⟩ (fun _ => ?_)
          clear hK K
          try simp only [ihf9, Act.put, List.setIfInBounds_toArray, List.set_cons_succ, List.set_cons_zero]
          clear hrun o9 tu
          refine wpAnyH_ready (rs := [12]) (by kernel_rfl) (by simp) ?_
          refine AllReadyH.cons (o := ihf12) rfl (fun K hK => ?_) AllReadyH.nil
          unfold ihf12
          go_simp
          refine (copy_any ba bc bytes.length bytes X52 rfl (IB.out.keep BX52.out) HBY.out).mono ?_
          rintro e X53 ⟨g12, c12, rfl, o12, bX53⟩
          go_wp2_with fail
          have BX53 : Hid (Below w1.heap.size w1 X53) := BX52.out.trans (bX53.mono BX52.out.size)
          have S3 := Hid.mk' (S3.out.keep bX53)
          have B14 := Hid.mk' (B14.out.keep bX53)
          have O9 := Hid.mk' (OwnsI.keep O9.out bX53)
          have Y12 : Hid (OwnsB X53 w1.heap.size (some ⟨g12, 0, none⟩) bytes c12) := OwnsB.mono o12 BX52.out.size
          refine hK.out _ _ ⟨NK.out _ BX53.out, S3.out.j⟩ (fun _ => ?_)
          clear hK K
          try simp only [ihf12, Act.put, List.setIfInBounds_toArray, List.set_cons_succ, List.set_cons_zero]
          clear o12 bX53
          refine wpAnyH_take (i := 13) (oi := ihf13) (v := .agg #[.int .i64 p, .int .i64 c, .int .i64 s, .slice la2 live.length lc2, .int .i64 0, .slice a9 offs.length c9, .slice (some ⟨g12, 0, none⟩) bytes.length c12]) rfl (by kernel_rfl) (by kernel_rfl) (by kernel_rfl) (fun _ _ _ h => h) (.inl ⟨rfl, by intro wz hz; obtain ⟨⟨q0, q1, q2, q3, q4, q5, q6⟩, ⟨h0, h1, h2, h3⟩⟩ := hz; unfold ihf13; go_simp⟩) ⟨NK.out _ BX53.out, S3.out.j⟩ ?_
          simp only [ihf13, Act.put, List.setIfInBounds_toArray, List.set_cons_succ, List.set_cons_zero]
          obtain ⟨m0, m1, m2, m3, m4, m5, m6⟩ := icell B14.out.row
          have f00 := ithawed B14.out.row 0
          have f01 := ithawed B14.out.row 1
          have f02 := ithawed B14.out.row 2
          have f03 := ithawed B14.out.row 3
          have f04 := ithawed B14.out.row 4
          have f05 := ithawed B14.out.row 5
          have f06 := ithawed B14.out.row 6
          obtain ⟨LW, hLW⟩ : ∃ LW, lay7 X53 (X40.heap.size) (.int .i64 p) (.int .i64 c) (.int .i64 s) (.slice la2 live.length lc2) (.int .i64 0) (.slice a9 offs.length c9) (.slice (some ⟨g12, 0, none⟩) bytes.length c12) = LW := ⟨_, rfl⟩
          have LV : Hid (LW = (((((((X53.setCell ⟨X40.heap.size, 0, none⟩ (.int .i64 p)).setCell ⟨X40.heap.size, 1, none⟩ (.int .i64 c)).setCell ⟨X40.heap.size, 2, none⟩ (.int .i64 s)).setCell ⟨X40.heap.size, 3, none⟩ (.slice la2 live.length lc2)).setCell ⟨X40.heap.size, 4, none⟩ (.int .i64 0)).setCell ⟨X40.heap.size, 5, none⟩ (.slice a9 offs.length c9)).setCell ⟨X40.heap.size, 6, none⟩ (.slice (some ⟨g12, 0, none⟩) bytes.length c12))) := by show _ = _; rw [← hLW]; rfl
          have PO : Hid (MvP w1 LW (X40.heap.size) p c s 0 la2 lc2 a9 c9 (some ⟨g12, 0, none⟩) c12 live offs bytes ∧ (LW.cell? ⟨gA, 0, none⟩ = some (.int .i64 p) ∧ LW.cell? ⟨gA, 1, none⟩ = some (.int .i64 c) ∧ LW.cell? ⟨gA, 2, none⟩ = some (.int .i64 s) ∧ LW.cell? ⟨gA, 3, none⟩ = some (.slice la2 live.length lc2))) := by show _ ∧ _; rw [← hLW]; exact mvP_lay BX53.out S3.out B14.out O9.out Y12.out NA.out VI.out VO.out AY.out
          clear hLW
          refine wpAnyH_ready (rs := [15]) (by kernel_rfl) (by simp) ?_
          refine AllReadyH.cons (o := ihf15) rfl (fun K hK => ?_) AllReadyH.nil
          unfold ihf15
          go_simp
          rw [← LV.out]
          refine hK.out _ _ ⟨NK.out _ PO.out.1.low, PO.out.2⟩ (fun _ => ?_)
          clear hK K
          try simp only [ihf15, Act.put, List.setIfInBounds_toArray, List.set_cons_succ, List.set_cons_zero]
          refine wpAnyH_done (by kernel_rfl) ?_ _
          go_wp2
          go_meet
          exact ⟨_, _, _, _, _, _, _, rfl, PO.out.1⟩
      · obtain ⟨X54, hX54, zX54, rX54, bX54⟩ := ibox 34 X39 0 0 0 none 0 0 0 none 0 0 none 0 0
        have BX54 : Hid (Below w1.heap.size w1 X54) := BX39.out.trans (bX54.mono BX39.out.size)
        have N6 : Hid (¬ (X39.heap.size = X0.heap.size)) := by show ¬ _; have := E6.out.lt; omega
        have E6 := Hid.mk' (E6.out.keep bX54)
        have B14 : Hid (Bo w1 X54 X39.heap.size) := ⟨BX39.out.size, rX54⟩
        unfold ihf14
        go_simp
        try rw [hX54]
        refine hK.out _ _ (NK.out _ BX54.out) (fun _ => ?_)
        clear hK K
        try simp only [ihf14, Act.put, List.setIfInBounds_toArray, List.set_cons_succ, List.set_cons_zero]
        clear hX54 zX54 rX54 bX54
        refine wpAnyH_ready (rs := [2]) (by kernel_rfl) (by simp) ?_
        refine AllReadyH.cons (o := ihf2) rfl (fun K hK => ?_) AllReadyH.nil
        obtain ⟨X55, hX55, zX55, rX55, bX55⟩ := dbox X54 p c s la live.length lc
        have BX55 : Hid (Below w1.heap.size w1 X55) := BX54.out.trans (bX55.mono BX54.out.size)
        have E6 := Hid.mk' (E6.out.keep bX55)
        have B14 := Hid.mk' (B14.out.keep bX55)
        have R2 : Hid (RdT X55 (some ⟨X54.heap.size, 0, none⟩) [⟨p, c, s, live⟩]) := rdT_one (dcell0 rX55) (dcell1 rX55) (dcell2 rX55) (dcell3 rX55) (IL.out.keep BX55.out) LM.out
        unfold ihf2
        go_simp
        try rw [hX55]
        refine hK.out _ _ (NK.out _ BX55.out) (fun _ => ?_)
        clear hK K
        try simp only [ihf2, Act.put, List.setIfInBounds_toArray, List.set_cons_succ, List.set_cons_zero]
        clear hX55 zX55 rX55 bX55
        refine wpAnyH_ready (rs := [3]) (by kernel_rfl) (by simp) ?_
        refine AllReadyH.cons (o := ihf3) rfl (fun K hK => ?_) AllReadyH.nil
        unfold ihf3
        go_simp
        refine (rcopy_any (some ⟨X54.heap.size, 0, none⟩) 1 1 [⟨p, c, s, live⟩] X55 R2.out rfl (by omega) (fun t ht => by simp at ht; subst ht; exact HLV.out)).mono ?_
        rintro e X56 ⟨a3, c3, rfl, t3, bX56⟩
        obtain ⟨gA, la2, lc2, rfl, jj⟩ := sp1_of t3 BX55.out.size
        go_wp2_with fail
        have BX56 : Hid (Below w1.heap.size w1 X56) := BX55.out.trans (bX56.mono BX55.out.size)
        have NG : Hid (¬ (gA = X0.heap.size)) := by show ¬ _; have := E6.out.lt; have := jj.2.1; omega
        have NLA : Hid (∀ ad, la2 = some ad → ¬ (ad.block = X0.heap.size)) := fun ad e => by have := E6.out.lt; have := jj.2.2 ad e; omega
        have NA : Hid (¬ (gA = X39.heap.size)) := by show ¬ _; have := row_lt B14.out.row; have := jj.2.1; omega
        have E6 := Hid.mk' (E6.out.keep bX56)
        have B14 := Hid.mk' (B14.out.keep bX56)
        have S3 : Hid (Sp1 w1 X56 p c s live gA la2 lc2) := jj.1
        refine hK.out _ _ (NK.out _ BX56.out) (fun _ => ?_)
        clear hK K
        try simp only [ihf3, Act.put, List.setIfInBounds_toArray, List.set_cons_succ, List.set_cons_zero]
        clear jj t3 bX56
        refine wpAnyH_strong (S2 := (fun wz => (wz.cell? ⟨w.heap.size, 0, none⟩ = some (.int .i64 p) ∧ wz.cell? ⟨w.heap.size, 1, none⟩ = some (.int .i64 c) ∧ wz.cell? ⟨w.heap.size, 2, none⟩ = some (.int .i64 s) ∧ wz.cell? ⟨w.heap.size, 3, none⟩ = some (.slice la live.length lc) ∧ wz.cell? ⟨w.heap.size, 4, none⟩ = some (.int .i64 base) ∧ wz.cell? ⟨w.heap.size, 5, none⟩ = some (.slice oa offs.length oc) ∧ wz.cell? ⟨w.heap.size, 6, none⟩ = some (.slice ba bytes.length bc)) ∧ (wz.cell? ⟨gA, 0, none⟩ = some (.int .i64 p) ∧ wz.cell? ⟨gA, 1, none⟩ = some (.int .i64 c) ∧ wz.cell? ⟨gA, 2, none⟩ = some (.int .i64 s) ∧ wz.cell? ⟨gA, 3, none⟩ = some (.slice la2 live.length lc2)))) (fun _ q => q.1) _ _ _ _ ?_
        refine wpAnyH_take (i := 4) (oi := ihf4) (v := .pointer (some ⟨gA, 0, none⟩)) rfl (by kernel_rfl) (by kernel_rfl) (by kernel_rfl) (fun _ _ _ h => h) (.inl ⟨rfl, by intro wz hz; obtain ⟨⟨q0, q1, q2, q3, q4, q5, q6⟩, ⟨h0, h1, h2, h3⟩⟩ := hz; unfold ihf4; go_simp⟩) ⟨NK.out _ BX56.out, S3.out.j⟩ ?_
        simp only [ihf4, Act.put, List.setIfInBounds_toArray, List.set_cons_succ, List.set_cons_zero]
        refine wpAnyH_take (i := 5) (oi := ihf5) (v := .agg #[.int .i64 p, .int .i64 c, .int .i64 s, .slice la2 live.length lc2]) rfl (by kernel_rfl) (by kernel_rfl) (by kernel_rfl) (fun _ _ _ h => h) (.inl ⟨rfl, by intro wz hz; obtain ⟨⟨q0, q1, q2, q3, q4, q5, q6⟩, ⟨h0, h1, h2, h3⟩⟩ := hz; unfold ihf5; go_simp⟩) ⟨NK.out _ BX56.out, S3.out.j⟩ ?_
        simp only [ihf5, Act.put, List.setIfInBounds_toArray, List.set_cons_succ, List.set_cons_zero]
        refine wpAnyH_ready (rs := [9]) (by kernel_rfl) (by simp) ?_
        refine AllReadyH.cons (o := ihf9) rfl (fun K hK => ?_) AllReadyH.nil
        obtain ⟨a9, c9, X57, hrun, o9, tu⟩ := appAll_run w1.heap.size X56 BX56.out.size (X0.heap.size) E6.out.own oa offs offs.length oc rfl (IO.out.keep BX56.out) HOF.out
        have BX57 : Hid (Below w1.heap.size w1 X57) := BX56.out.trans (tu.below (fun i e => by rw [e]; exact E6.out.ge) BX56.out.size)
        have S3 := Hid.mk' (S3.out.tu tu NG.out NLA.out VI.out)
        have B14 := Hid.mk' (B14.out.tu tu N6.out)
        have O9 : Hid (OwnsI X57 w1.heap.size a9 offs c9) := o9
        refine step_app rfl _ _ 22 rfl (.slice (some ⟨X0.heap.size, 0, none⟩) 0 0) (.slice oa offs.length oc) rfl rfl _ _ hrun ?_
        refine hK.out _ _ ⟨NK.out _ BX57.out, S3.out.j⟩ (fun _ => ?_)
        clear hK K
        try simp only [ihf9, Act.put, List.setIfInBounds_toArray, List.set_cons_succ, List.set_cons_zero]
        clear hrun o9 tu
        refine wpAnyH_ready (rs := [12]) (by kernel_rfl) (by simp) ?_
        refine AllReadyH.cons (o := ihf12) rfl (fun K hK => ?_) AllReadyH.nil
        unfold ihf12
        go_simp
        refine (copy_any ba bc bytes.length bytes X57 rfl (IB.out.keep BX57.out) HBY.out).mono ?_
        rintro e X58 ⟨g12, c12, rfl, o12, bX58⟩
        go_wp2_with fail
        have BX58 : Hid (Below w1.heap.size w1 X58) := BX57.out.trans (bX58.mono BX57.out.size)
        have S3 := Hid.mk' (S3.out.keep bX58)
        have B14 := Hid.mk' (B14.out.keep bX58)
        have O9 := Hid.mk' (OwnsI.keep O9.out bX58)
        have Y12 : Hid (OwnsB X58 w1.heap.size (some ⟨g12, 0, none⟩) bytes c12) := OwnsB.mono o12 BX57.out.size
        refine hK.out _ _ ⟨NK.out _ BX58.out, S3.out.j⟩ (fun _ => ?_)
        clear hK K
        try simp only [ihf12, Act.put, List.setIfInBounds_toArray, List.set_cons_succ, List.set_cons_zero]
        clear o12 bX58
        refine wpAnyH_take (i := 13) (oi := ihf13) (v := .agg #[.int .i64 p, .int .i64 c, .int .i64 s, .slice la2 live.length lc2, .int .i64 0, .slice a9 offs.length c9, .slice (some ⟨g12, 0, none⟩) bytes.length c12]) rfl (by kernel_rfl) (by kernel_rfl) (by kernel_rfl) (fun _ _ _ h => h) (.inl ⟨rfl, by intro wz hz; obtain ⟨⟨q0, q1, q2, q3, q4, q5, q6⟩, ⟨h0, h1, h2, h3⟩⟩ := hz; unfold ihf13; go_simp⟩) ⟨NK.out _ BX58.out, S3.out.j⟩ ?_
        simp only [ihf13, Act.put, List.setIfInBounds_toArray, List.set_cons_succ, List.set_cons_zero]
        obtain ⟨m0, m1, m2, m3, m4, m5, m6⟩ := icell B14.out.row
        have f00 := ithawed B14.out.row 0
        have f01 := ithawed B14.out.row 1
        have f02 := ithawed B14.out.row 2
        have f03 := ithawed B14.out.row 3
        have f04 := ithawed B14.out.row 4
        have f05 := ithawed B14.out.row 5
        have f06 := ithawed B14.out.row 6
        obtain ⟨LW, hLW⟩ : ∃ LW, lay7 X58 (X39.heap.size) (.int .i64 p) (.int .i64 c) (.int .i64 s) (.slice la2 live.length lc2) (.int .i64 0) (.slice a9 offs.length c9) (.slice (some ⟨g12, 0, none⟩) bytes.length c12) = LW := ⟨_, rfl⟩
        have LV : Hid (LW = (((((((X58.setCell ⟨X39.heap.size, 0, none⟩ (.int .i64 p)).setCell ⟨X39.heap.size, 1, none⟩ (.int .i64 c)).setCell ⟨X39.heap.size, 2, none⟩ (.int .i64 s)).setCell ⟨X39.heap.size, 3, none⟩ (.slice la2 live.length lc2)).setCell ⟨X39.heap.size, 4, none⟩ (.int .i64 0)).setCell ⟨X39.heap.size, 5, none⟩ (.slice a9 offs.length c9)).setCell ⟨X39.heap.size, 6, none⟩ (.slice (some ⟨g12, 0, none⟩) bytes.length c12))) := by show _ = _; rw [← hLW]; rfl
        have PO : Hid (MvP w1 LW (X39.heap.size) p c s 0 la2 lc2 a9 c9 (some ⟨g12, 0, none⟩) c12 live offs bytes ∧ (LW.cell? ⟨gA, 0, none⟩ = some (.int .i64 p) ∧ LW.cell? ⟨gA, 1, none⟩ = some (.int .i64 c) ∧ LW.cell? ⟨gA, 2, none⟩ = some (.int .i64 s) ∧ LW.cell? ⟨gA, 3, none⟩ = some (.slice la2 live.length lc2))) := by show _ ∧ _; rw [← hLW]; exact mvP_lay BX58.out S3.out B14.out O9.out Y12.out NA.out VI.out VO.out AY.out
        clear hLW
        refine wpAnyH_ready (rs := [15]) (by kernel_rfl) (by simp) ?_
        refine AllReadyH.cons (o := ihf15) rfl (fun K hK => ?_) AllReadyH.nil
        unfold ihf15
        go_simp
        rw [← LV.out]
        refine hK.out _ _ ⟨NK.out _ PO.out.1.low, PO.out.2⟩ (fun _ => ?_)
        clear hK K
        try simp only [ihf15, Act.put, List.setIfInBounds_toArray, List.set_cons_succ, List.set_cons_zero]
        refine wpAnyH_done (by kernel_rfl) ?_ _
        go_wp2
        go_meet
        exact ⟨_, _, _, _, _, _, _, rfl, PO.out.1⟩
    · obtain ⟨X59, hX59, zX59, rX59, bX59⟩ := ibox 34 X0 0 0 0 none 0 0 0 none 0 0 none 0 0
      have BX59 : Hid (Below w1.heap.size w1 X59) := BX0.out.trans (bX59.mono BX0.out.size)
      have B14 : Hid (Bo w1 X59 X0.heap.size) := ⟨BX0.out.size, rX59⟩
      unfold ihf14
      go_simp
      try rw [hX59]
      refine hK.out _ _ (NK.out _ BX59.out) (fun _ => ?_)
      clear hK K
      try simp only [ihf14, Act.put, List.setIfInBounds_toArray, List.set_cons_succ, List.set_cons_zero]
      clear hX59 zX59 rX59 bX59
      refine wpAnyH_ready (rs := [2, 6]) (by kernel_rfl) (by simp) ?_
      refine AllReadyH.cons (o := ihf2) rfl (fun K hK => ?_) (AllReadyH.cons (o := ihf6) rfl (fun K hK => ?_) AllReadyH.nil)
      · obtain ⟨X60, hX60, zX60, rX60, bX60⟩ := dbox X59 p c s la live.length lc
        have BX60 : Hid (Below w1.heap.size w1 X60) := BX59.out.trans (bX60.mono BX59.out.size)
        have B14 := Hid.mk' (B14.out.keep bX60)
        have R2 : Hid (RdT X60 (some ⟨X59.heap.size, 0, none⟩) [⟨p, c, s, live⟩]) := rdT_one (dcell0 rX60) (dcell1 rX60) (dcell2 rX60) (dcell3 rX60) (IL.out.keep BX60.out) LM.out
        unfold ihf2
        go_simp
        try rw [hX60]
        refine hK.out _ _ (NK.out _ BX60.out) (fun _ => ?_)
        clear hK K
        try simp only [ihf2, Act.put, List.setIfInBounds_toArray, List.set_cons_succ, List.set_cons_zero]
        clear hX60 zX60 rX60 bX60
        refine wpAnyH_ready (rs := [3, 6]) (by kernel_rfl) (by simp) ?_
        refine AllReadyH.cons (o := ihf3) rfl (fun K hK => ?_) (AllReadyH.cons (o := ihf6) rfl (fun K hK => ?_) AllReadyH.nil)
        · unfold ihf3
          go_simp
          refine (rcopy_any (some ⟨X59.heap.size, 0, none⟩) 1 1 [⟨p, c, s, live⟩] X60 R2.out rfl (by omega) (fun t ht => by simp at ht; subst ht; exact HLV.out)).mono ?_
          rintro e X61 ⟨a3, c3, rfl, t3, bX61⟩
          obtain ⟨gA, la2, lc2, rfl, jj⟩ := sp1_of t3 BX60.out.size
          go_wp2_with fail
          have BX61 : Hid (Below w1.heap.size w1 X61) := BX60.out.trans (bX61.mono BX60.out.size)
          have NA : Hid (¬ (gA = X0.heap.size)) := by show ¬ _; have := row_lt B14.out.row; have := jj.2.1; omega
          have B14 := Hid.mk' (B14.out.keep bX61)
          have S3 : Hid (Sp1 w1 X61 p c s live gA la2 lc2) := jj.1
          refine hK.out _ _ (NK.out _ BX61.out) (fun _ => ?_)
          clear hK K
          try simp only [ihf3, Act.put, List.setIfInBounds_toArray, List.set_cons_succ, List.set_cons_zero]
          clear jj t3 bX61
          refine wpAnyH_strong (S2 := (fun wz => (wz.cell? ⟨w.heap.size, 0, none⟩ = some (.int .i64 p) ∧ wz.cell? ⟨w.heap.size, 1, none⟩ = some (.int .i64 c) ∧ wz.cell? ⟨w.heap.size, 2, none⟩ = some (.int .i64 s) ∧ wz.cell? ⟨w.heap.size, 3, none⟩ = some (.slice la live.length lc) ∧ wz.cell? ⟨w.heap.size, 4, none⟩ = some (.int .i64 base) ∧ wz.cell? ⟨w.heap.size, 5, none⟩ = some (.slice oa offs.length oc) ∧ wz.cell? ⟨w.heap.size, 6, none⟩ = some (.slice ba bytes.length bc)) ∧ (wz.cell? ⟨gA, 0, none⟩ = some (.int .i64 p) ∧ wz.cell? ⟨gA, 1, none⟩ = some (.int .i64 c) ∧ wz.cell? ⟨gA, 2, none⟩ = some (.int .i64 s) ∧ wz.cell? ⟨gA, 3, none⟩ = some (.slice la2 live.length lc2)))) (fun _ q => q.1) _ _ _ _ ?_
          refine wpAnyH_take (i := 4) (oi := ihf4) (v := .pointer (some ⟨gA, 0, none⟩)) rfl (by kernel_rfl) (by kernel_rfl) (by kernel_rfl) (fun _ _ _ h => h) (.inl ⟨rfl, by intro wz hz; obtain ⟨⟨q0, q1, q2, q3, q4, q5, q6⟩, ⟨h0, h1, h2, h3⟩⟩ := hz; unfold ihf4; go_simp⟩) ⟨NK.out _ BX61.out, S3.out.j⟩ ?_
          simp only [ihf4, Act.put, List.setIfInBounds_toArray, List.set_cons_succ, List.set_cons_zero]
          refine wpAnyH_take (i := 5) (oi := ihf5) (v := .agg #[.int .i64 p, .int .i64 c, .int .i64 s, .slice la2 live.length lc2]) rfl (by kernel_rfl) (by kernel_rfl) (by kernel_rfl) (fun _ _ _ h => h) (.inl ⟨rfl, by intro wz hz; obtain ⟨⟨q0, q1, q2, q3, q4, q5, q6⟩, ⟨h0, h1, h2, h3⟩⟩ := hz; unfold ihf5; go_simp⟩) ⟨NK.out _ BX61.out, S3.out.j⟩ ?_
          simp only [ihf5, Act.put, List.setIfInBounds_toArray, List.set_cons_succ, List.set_cons_zero]
          refine wpAnyH_ready (rs := [6]) (by kernel_rfl) (by simp) ?_
          refine AllReadyH.cons (o := ihf6) rfl (fun K hK => ?_) AllReadyH.nil
          obtain ⟨X62, hX62⟩ : ∃ W, X61.alloc (.cells #[] 3) = W := ⟨_, rfl⟩
          have bX62 : Below X61.heap.size X61 X62 := by rw [← hX62]; exact (Below.refl _ _).alloc (Nat.le_refl _) _
          have BX62 : Hid (Below w1.heap.size w1 X62) := BX61.out.trans (bX62.mono BX61.out.size)
          have NG : Hid (¬ (gA = X61.heap.size)) := by show ¬ _; have := S3.out.lt; omega
          have NLA : Hid (∀ ad, la2 = some ad → ¬ (ad.block = X61.heap.size)) := fun ad e => by have := (S3.out.lb ad e).2; omega
          have N6 : Hid (¬ (X0.heap.size = X61.heap.size)) := by show ¬ _; have := row_lt B14.out.row; omega
          have S3 := Hid.mk' (S3.out.keep bX62)
          have B14 := Hid.mk' (B14.out.keep bX62)
          have E6 : Hid (Em w1 X62 X61.heap.size) := by show Em _ _ _; rw [← hX62]; exact Em.made BX61.out.size
          unfold ihf6
          go_simp
          try rw [hX62]
          refine hK.out _ _ ⟨NK.out _ BX62.out, S3.out.j⟩ (fun _ => ?_)
          clear hK K
          try simp only [ihf6, Act.put, List.setIfInBounds_toArray, List.set_cons_succ, List.set_cons_zero]
          clear hX62 bX62
          refine wpAnyH_ready (rs := [9]) (by kernel_rfl) (by simp) ?_
          refine AllReadyH.cons (o := ihf9) rfl (fun K hK => ?_) AllReadyH.nil
          obtain ⟨a9, c9, X63, hrun, o9, tu⟩ := appAll_run w1.heap.size X62 BX62.out.size (X61.heap.size) E6.out.own oa offs offs.length oc rfl (IO.out.keep BX62.out) HOF.out
          have BX63 : Hid (Below w1.heap.size w1 X63) := BX62.out.trans (tu.below (fun i e => by rw [e]; exact E6.out.ge) BX62.out.size)
          have S3 := Hid.mk' (S3.out.tu tu NG.out NLA.out VI.out)
          have B14 := Hid.mk' (B14.out.tu tu N6.out)
          have O9 : Hid (OwnsI X63 w1.heap.size a9 offs c9) := o9
          refine step_app rfl _ _ 22 rfl (.slice (some ⟨X61.heap.size, 0, none⟩) 0 0) (.slice oa offs.length oc) rfl rfl _ _ hrun ?_
          refine hK.out _ _ ⟨NK.out _ BX63.out, S3.out.j⟩ (fun _ => ?_)
          clear hK K
          try simp only [ihf9, Act.put, List.setIfInBounds_toArray, List.set_cons_succ, List.set_cons_zero]
          clear hrun o9 tu
          refine wpAnyH_ready (rs := [12]) (by kernel_rfl) (by simp) ?_
          refine AllReadyH.cons (o := ihf12) rfl (fun K hK => ?_) AllReadyH.nil
          unfold ihf12
          go_simp
          refine (copy_any ba bc bytes.length bytes X63 rfl (IB.out.keep BX63.out) HBY.out).mono ?_
          rintro e X64 ⟨g12, c12, rfl, o12, bX64⟩
          go_wp2_with fail
          have BX64 : Hid (Below w1.heap.size w1 X64) := BX63.out.trans (bX64.mono BX63.out.size)
          have S3 := Hid.mk' (S3.out.keep bX64)
          have B14 := Hid.mk' (B14.out.keep bX64)
          have O9 := Hid.mk' (OwnsI.keep O9.out bX64)
          have Y12 : Hid (OwnsB X64 w1.heap.size (some ⟨g12, 0, none⟩) bytes c12) := OwnsB.mono o12 BX63.out.size
          refine hK.out _ _ ⟨NK.out _ BX64.out, S3.out.j⟩ (fun _ => ?_)
          clear hK K
          try simp only [ihf12, Act.put, List.setIfInBounds_toArray, List.set_cons_succ, List.set_cons_zero]
          clear o12 bX64
          refine wpAnyH_take (i := 13) (oi := ihf13) (v := .agg #[.int .i64 p, .int .i64 c, .int .i64 s, .slice la2 live.length lc2, .int .i64 0, .slice a9 offs.length c9, .slice (some ⟨g12, 0, none⟩) bytes.length c12]) rfl (by kernel_rfl) (by kernel_rfl) (by kernel_rfl) (fun _ _ _ h => h) (.inl ⟨rfl, by intro wz hz; obtain ⟨⟨q0, q1, q2, q3, q4, q5, q6⟩, ⟨h0, h1, h2, h3⟩⟩ := hz; unfold ihf13; go_simp⟩) ⟨NK.out _ BX64.out, S3.out.j⟩ ?_
          simp only [ihf13, Act.put, List.setIfInBounds_toArray, List.set_cons_succ, List.set_cons_zero]
          obtain ⟨m0, m1, m2, m3, m4, m5, m6⟩ := icell B14.out.row
          have f00 := ithawed B14.out.row 0
          have f01 := ithawed B14.out.row 1
          have f02 := ithawed B14.out.row 2
          have f03 := ithawed B14.out.row 3
          have f04 := ithawed B14.out.row 4
          have f05 := ithawed B14.out.row 5
          have f06 := ithawed B14.out.row 6
          obtain ⟨LW, hLW⟩ : ∃ LW, lay7 X64 (X0.heap.size) (.int .i64 p) (.int .i64 c) (.int .i64 s) (.slice la2 live.length lc2) (.int .i64 0) (.slice a9 offs.length c9) (.slice (some ⟨g12, 0, none⟩) bytes.length c12) = LW := ⟨_, rfl⟩
          have LV : Hid (LW = (((((((X64.setCell ⟨X0.heap.size, 0, none⟩ (.int .i64 p)).setCell ⟨X0.heap.size, 1, none⟩ (.int .i64 c)).setCell ⟨X0.heap.size, 2, none⟩ (.int .i64 s)).setCell ⟨X0.heap.size, 3, none⟩ (.slice la2 live.length lc2)).setCell ⟨X0.heap.size, 4, none⟩ (.int .i64 0)).setCell ⟨X0.heap.size, 5, none⟩ (.slice a9 offs.length c9)).setCell ⟨X0.heap.size, 6, none⟩ (.slice (some ⟨g12, 0, none⟩) bytes.length c12))) := by show _ = _; rw [← hLW]; rfl
          have PO : Hid (MvP w1 LW (X0.heap.size) p c s 0 la2 lc2 a9 c9 (some ⟨g12, 0, none⟩) c12 live offs bytes ∧ (LW.cell? ⟨gA, 0, none⟩ = some (.int .i64 p) ∧ LW.cell? ⟨gA, 1, none⟩ = some (.int .i64 c) ∧ LW.cell? ⟨gA, 2, none⟩ = some (.int .i64 s) ∧ LW.cell? ⟨gA, 3, none⟩ = some (.slice la2 live.length lc2))) := by show _ ∧ _; rw [← hLW]; exact mvP_lay BX64.out S3.out B14.out O9.out Y12.out NA.out VI.out VO.out AY.out
          clear hLW
          refine wpAnyH_ready (rs := [15]) (by kernel_rfl) (by simp) ?_
          refine AllReadyH.cons (o := ihf15) rfl (fun K hK => ?_) AllReadyH.nil
          unfold ihf15
          go_simp
          rw [← LV.out]
          refine hK.out _ _ ⟨NK.out _ PO.out.1.low, PO.out.2⟩ (fun _ => ?_)
          clear hK K
          try simp only [ihf15, Act.put, List.setIfInBounds_toArray, List.set_cons_succ, List.set_cons_zero]
          refine wpAnyH_done (by kernel_rfl) ?_ _
          go_wp2
          go_meet
          exact ⟨_, _, _, _, _, _, _, rfl, PO.out.1⟩
        · obtain ⟨X65, hX65⟩ : ∃ W, X60.alloc (.cells #[] 3) = W := ⟨_, rfl⟩
          have bX65 : Below X60.heap.size X60 X65 := by rw [← hX65]; exact (Below.refl _ _).alloc (Nat.le_refl _) _
          have BX65 : Hid (Below w1.heap.size w1 X65) := BX60.out.trans (bX65.mono BX60.out.size)
          have N6 : Hid (¬ (X0.heap.size = X60.heap.size)) := by show ¬ _; have := row_lt B14.out.row; omega
          have R2 := Hid.mk' (R2.out.keep bX65)
          have B14 := Hid.mk' (B14.out.keep bX65)
          have E6 : Hid (Em w1 X65 X60.heap.size) := by show Em _ _ _; rw [← hX65]; exact Em.made BX60.out.size
          unfold ihf6
          go_simp
          try rw [hX65]
          refine hK.out _ _ (NK.out _ BX65.out) (fun _ => ?_)
          clear hK K
          try simp only [ihf6, Act.put, List.setIfInBounds_toArray, List.set_cons_succ, List.set_cons_zero]
          clear hX65 bX65
          refine wpAnyH_ready (rs := [3]) (by kernel_rfl) (by simp) ?_
          refine AllReadyH.cons (o := ihf3) rfl (fun K hK => ?_) AllReadyH.nil
          unfold ihf3
          go_simp
          refine (rcopy_any (some ⟨X59.heap.size, 0, none⟩) 1 1 [⟨p, c, s, live⟩] X65 R2.out rfl (by omega) (fun t ht => by simp at ht; subst ht; exact HLV.out)).mono ?_
          rintro e X66 ⟨a3, c3, rfl, t3, bX66⟩
          obtain ⟨gA, la2, lc2, rfl, jj⟩ := sp1_of t3 BX65.out.size
          go_wp2_with fail
          have BX66 : Hid (Below w1.heap.size w1 X66) := BX65.out.trans (bX66.mono BX65.out.size)
          have NG : Hid (¬ (gA = X60.heap.size)) := by show ¬ _; have := E6.out.lt; have := jj.2.1; omega
          have NLA : Hid (∀ ad, la2 = some ad → ¬ (ad.block = X60.heap.size)) := fun ad e => by have := E6.out.lt; have := jj.2.2 ad e; omega
          have NA : Hid (¬ (gA = X0.heap.size)) := by show ¬ _; have := row_lt B14.out.row; have := jj.2.1; omega
          have E6 := Hid.mk' (E6.out.keep bX66)
          have B14 := Hid.mk' (B14.out.keep bX66)
          have S3 : Hid (Sp1 w1 X66 p c s live gA la2 lc2) := jj.1
          refine hK.out _ _ (NK.out _ BX66.out) (fun _ => ?_)
          clear hK K
          try simp only [ihf3, Act.put, List.setIfInBounds_toArray, List.set_cons_succ, List.set_cons_zero]
          clear jj t3 bX66
          refine wpAnyH_strong (S2 := (fun wz => (wz.cell? ⟨w.heap.size, 0, none⟩ = some (.int .i64 p) ∧ wz.cell? ⟨w.heap.size, 1, none⟩ = some (.int .i64 c) ∧ wz.cell? ⟨w.heap.size, 2, none⟩ = some (.int .i64 s) ∧ wz.cell? ⟨w.heap.size, 3, none⟩ = some (.slice la live.length lc) ∧ wz.cell? ⟨w.heap.size, 4, none⟩ = some (.int .i64 base) ∧ wz.cell? ⟨w.heap.size, 5, none⟩ = some (.slice oa offs.length oc) ∧ wz.cell? ⟨w.heap.size, 6, none⟩ = some (.slice ba bytes.length bc)) ∧ (wz.cell? ⟨gA, 0, none⟩ = some (.int .i64 p) ∧ wz.cell? ⟨gA, 1, none⟩ = some (.int .i64 c) ∧ wz.cell? ⟨gA, 2, none⟩ = some (.int .i64 s) ∧ wz.cell? ⟨gA, 3, none⟩ = some (.slice la2 live.length lc2)))) (fun _ q => q.1) _ _ _ _ ?_
          refine wpAnyH_take (i := 4) (oi := ihf4) (v := .pointer (some ⟨gA, 0, none⟩)) rfl (by kernel_rfl) (by kernel_rfl) (by kernel_rfl) (fun _ _ _ h => h) (.inl ⟨rfl, by intro wz hz; obtain ⟨⟨q0, q1, q2, q3, q4, q5, q6⟩, ⟨h0, h1, h2, h3⟩⟩ := hz; unfold ihf4; go_simp⟩) ⟨NK.out _ BX66.out, S3.out.j⟩ ?_
          simp only [ihf4, Act.put, List.setIfInBounds_toArray, List.set_cons_succ, List.set_cons_zero]
          refine wpAnyH_take (i := 5) (oi := ihf5) (v := .agg #[.int .i64 p, .int .i64 c, .int .i64 s, .slice la2 live.length lc2]) rfl (by kernel_rfl) (by kernel_rfl) (by kernel_rfl) (fun _ _ _ h => h) (.inl ⟨rfl, by intro wz hz; obtain ⟨⟨q0, q1, q2, q3, q4, q5, q6⟩, ⟨h0, h1, h2, h3⟩⟩ := hz; unfold ihf5; go_simp⟩) ⟨NK.out _ BX66.out, S3.out.j⟩ ?_
          simp only [ihf5, Act.put, List.setIfInBounds_toArray, List.set_cons_succ, List.set_cons_zero]
          refine wpAnyH_ready (rs := [9]) (by kernel_rfl) (by simp) ?_
          refine AllReadyH.cons (o := ihf9) rfl (fun K hK => ?_) AllReadyH.nil
          obtain ⟨a9, c9, X67, hrun, o9, tu⟩ := appAll_run w1.heap.size X66 BX66.out.size (X60.heap.size) E6.out.own oa offs offs.length oc rfl (IO.out.keep BX66.out) HOF.out
          have BX67 : Hid (Below w1.heap.size w1 X67) := BX66.out.trans (tu.below (fun i e => by rw [e]; exact E6.out.ge) BX66.out.size)
          have S3 := Hid.mk' (S3.out.tu tu NG.out NLA.out VI.out)
          have B14 := Hid.mk' (B14.out.tu tu N6.out)
          have O9 : Hid (OwnsI X67 w1.heap.size a9 offs c9) := o9
          refine step_app rfl _ _ 22 rfl (.slice (some ⟨X60.heap.size, 0, none⟩) 0 0) (.slice oa offs.length oc) rfl rfl _ _ hrun ?_
          refine hK.out _ _ ⟨NK.out _ BX67.out, S3.out.j⟩ (fun _ => ?_)
          clear hK K
          try simp only [ihf9, Act.put, List.setIfInBounds_toArray, List.set_cons_succ, List.set_cons_zero]
          clear hrun o9 tu
          refine wpAnyH_ready (rs := [12]) (by kernel_rfl) (by simp) ?_
          refine AllReadyH.cons (o := ihf12) rfl (fun K hK => ?_) AllReadyH.nil
          unfold ihf12
          go_simp
          refine (copy_any ba bc bytes.length bytes X67 rfl (IB.out.keep BX67.out) HBY.out).mono ?_
          rintro e X68 ⟨g12, c12, rfl, o12, bX68⟩
          go_wp2_with fail
          have BX68 : Hid (Below w1.heap.size w1 X68) := BX67.out.trans (bX68.mono BX67.out.size)
          have S3 := Hid.mk' (S3.out.keep bX68)
          have B14 := Hid.mk' (B14.out.keep bX68)
          have O9 := Hid.mk' (OwnsI.keep O9.out bX68)
          have Y12 : Hid (OwnsB X68 w1.heap.size (some ⟨g12, 0, none⟩) bytes c12) := OwnsB.mono o12 BX67.out.size
          refine hK.out _ _ ⟨NK.out _ BX68.out, S3.out.j⟩ (fun _ => ?_)
          clear hK K
          try simp only [ihf12, Act.put, List.setIfInBounds_toArray, List.set_cons_succ, List.set_cons_zero]
          clear o12 bX68
          refine wpAnyH_take (i := 13) (oi := ihf13) (v := .agg #[.int .i64 p, .int .i64 c, .int .i64 s, .slice la2 live.length lc2, .int .i64 0, .slice a9 offs.length c9, .slice (some ⟨g12, 0, none⟩) bytes.length c12]) rfl (by kernel_rfl) (by kernel_rfl) (by kernel_rfl) (fun _ _ _ h => h) (.inl ⟨rfl, by intro wz hz; obtain ⟨⟨q0, q1, q2, q3, q4, q5, q6⟩, ⟨h0, h1, h2, h3⟩⟩ := hz; unfold ihf13; go_simp⟩) ⟨NK.out _ BX68.out, S3.out.j⟩ ?_
          simp only [ihf13, Act.put, List.setIfInBounds_toArray, List.set_cons_succ, List.set_cons_zero]
          obtain ⟨m0, m1, m2, m3, m4, m5, m6⟩ := icell B14.out.row
          have f00 := ithawed B14.out.row 0
          have f01 := ithawed B14.out.row 1
          have f02 := ithawed B14.out.row 2
          have f03 := ithawed B14.out.row 3
          have f04 := ithawed B14.out.row 4
          have f05 := ithawed B14.out.row 5
          have f06 := ithawed B14.out.row 6
          obtain ⟨LW, hLW⟩ : ∃ LW, lay7 X68 (X0.heap.size) (.int .i64 p) (.int .i64 c) (.int .i64 s) (.slice la2 live.length lc2) (.int .i64 0) (.slice a9 offs.length c9) (.slice (some ⟨g12, 0, none⟩) bytes.length c12) = LW := ⟨_, rfl⟩
          have LV : Hid (LW = (((((((X68.setCell ⟨X0.heap.size, 0, none⟩ (.int .i64 p)).setCell ⟨X0.heap.size, 1, none⟩ (.int .i64 c)).setCell ⟨X0.heap.size, 2, none⟩ (.int .i64 s)).setCell ⟨X0.heap.size, 3, none⟩ (.slice la2 live.length lc2)).setCell ⟨X0.heap.size, 4, none⟩ (.int .i64 0)).setCell ⟨X0.heap.size, 5, none⟩ (.slice a9 offs.length c9)).setCell ⟨X0.heap.size, 6, none⟩ (.slice (some ⟨g12, 0, none⟩) bytes.length c12))) := by show _ = _; rw [← hLW]; rfl
          have PO : Hid (MvP w1 LW (X0.heap.size) p c s 0 la2 lc2 a9 c9 (some ⟨g12, 0, none⟩) c12 live offs bytes ∧ (LW.cell? ⟨gA, 0, none⟩ = some (.int .i64 p) ∧ LW.cell? ⟨gA, 1, none⟩ = some (.int .i64 c) ∧ LW.cell? ⟨gA, 2, none⟩ = some (.int .i64 s) ∧ LW.cell? ⟨gA, 3, none⟩ = some (.slice la2 live.length lc2))) := by show _ ∧ _; rw [← hLW]; exact mvP_lay BX68.out S3.out B14.out O9.out Y12.out NA.out VI.out VO.out AY.out
          clear hLW
          refine wpAnyH_ready (rs := [15]) (by kernel_rfl) (by simp) ?_
          refine AllReadyH.cons (o := ihf15) rfl (fun K hK => ?_) AllReadyH.nil
          unfold ihf15
          go_simp
          rw [← LV.out]
          refine hK.out _ _ ⟨NK.out _ PO.out.1.low, PO.out.2⟩ (fun _ => ?_)
          clear hK K
          try simp only [ihf15, Act.put, List.setIfInBounds_toArray, List.set_cons_succ, List.set_cons_zero]
          refine wpAnyH_done (by kernel_rfl) ?_ _
          go_wp2
          go_meet
          exact ⟨_, _, _, _, _, _, _, rfl, PO.out.1⟩
      · obtain ⟨X69, hX69⟩ : ∃ W, X59.alloc (.cells #[] 3) = W := ⟨_, rfl⟩
        have bX69 : Below X59.heap.size X59 X69 := by rw [← hX69]; exact (Below.refl _ _).alloc (Nat.le_refl _) _
        have BX69 : Hid (Below w1.heap.size w1 X69) := BX59.out.trans (bX69.mono BX59.out.size)
        have N6 : Hid (¬ (X0.heap.size = X59.heap.size)) := by show ¬ _; have := row_lt B14.out.row; omega
        have B14 := Hid.mk' (B14.out.keep bX69)
        have E6 : Hid (Em w1 X69 X59.heap.size) := by show Em _ _ _; rw [← hX69]; exact Em.made BX59.out.size
        unfold ihf6
        go_simp
        try rw [hX69]
        refine hK.out _ _ (NK.out _ BX69.out) (fun _ => ?_)
        clear hK K
        try simp only [ihf6, Act.put, List.setIfInBounds_toArray, List.set_cons_succ, List.set_cons_zero]
        clear hX69 bX69
        refine wpAnyH_ready (rs := [2]) (by kernel_rfl) (by simp) ?_
        refine AllReadyH.cons (o := ihf2) rfl (fun K hK => ?_) AllReadyH.nil
        obtain ⟨X70, hX70, zX70, rX70, bX70⟩ := dbox X69 p c s la live.length lc
        have BX70 : Hid (Below w1.heap.size w1 X70) := BX69.out.trans (bX70.mono BX69.out.size)
        have E6 := Hid.mk' (E6.out.keep bX70)
        have B14 := Hid.mk' (B14.out.keep bX70)
        have R2 : Hid (RdT X70 (some ⟨X69.heap.size, 0, none⟩) [⟨p, c, s, live⟩]) := rdT_one (dcell0 rX70) (dcell1 rX70) (dcell2 rX70) (dcell3 rX70) (IL.out.keep BX70.out) LM.out
        unfold ihf2
        go_simp
        try rw [hX70]
        refine hK.out _ _ (NK.out _ BX70.out) (fun _ => ?_)
        clear hK K
        try simp only [ihf2, Act.put, List.setIfInBounds_toArray, List.set_cons_succ, List.set_cons_zero]
        clear hX70 zX70 rX70 bX70
        refine wpAnyH_ready (rs := [3]) (by kernel_rfl) (by simp) ?_
        refine AllReadyH.cons (o := ihf3) rfl (fun K hK => ?_) AllReadyH.nil
        unfold ihf3
        go_simp
        refine (rcopy_any (some ⟨X69.heap.size, 0, none⟩) 1 1 [⟨p, c, s, live⟩] X70 R2.out rfl (by omega) (fun t ht => by simp at ht; subst ht; exact HLV.out)).mono ?_
        rintro e X71 ⟨a3, c3, rfl, t3, bX71⟩
        obtain ⟨gA, la2, lc2, rfl, jj⟩ := sp1_of t3 BX70.out.size
        go_wp2_with fail
        have BX71 : Hid (Below w1.heap.size w1 X71) := BX70.out.trans (bX71.mono BX70.out.size)
        have NG : Hid (¬ (gA = X59.heap.size)) := by show ¬ _; have := E6.out.lt; have := jj.2.1; omega
        have NLA : Hid (∀ ad, la2 = some ad → ¬ (ad.block = X59.heap.size)) := fun ad e => by have := E6.out.lt; have := jj.2.2 ad e; omega
        have NA : Hid (¬ (gA = X0.heap.size)) := by show ¬ _; have := row_lt B14.out.row; have := jj.2.1; omega
        have E6 := Hid.mk' (E6.out.keep bX71)
        have B14 := Hid.mk' (B14.out.keep bX71)
        have S3 : Hid (Sp1 w1 X71 p c s live gA la2 lc2) := jj.1
        refine hK.out _ _ (NK.out _ BX71.out) (fun _ => ?_)
        clear hK K
        try simp only [ihf3, Act.put, List.setIfInBounds_toArray, List.set_cons_succ, List.set_cons_zero]
        clear jj t3 bX71
        refine wpAnyH_strong (S2 := (fun wz => (wz.cell? ⟨w.heap.size, 0, none⟩ = some (.int .i64 p) ∧ wz.cell? ⟨w.heap.size, 1, none⟩ = some (.int .i64 c) ∧ wz.cell? ⟨w.heap.size, 2, none⟩ = some (.int .i64 s) ∧ wz.cell? ⟨w.heap.size, 3, none⟩ = some (.slice la live.length lc) ∧ wz.cell? ⟨w.heap.size, 4, none⟩ = some (.int .i64 base) ∧ wz.cell? ⟨w.heap.size, 5, none⟩ = some (.slice oa offs.length oc) ∧ wz.cell? ⟨w.heap.size, 6, none⟩ = some (.slice ba bytes.length bc)) ∧ (wz.cell? ⟨gA, 0, none⟩ = some (.int .i64 p) ∧ wz.cell? ⟨gA, 1, none⟩ = some (.int .i64 c) ∧ wz.cell? ⟨gA, 2, none⟩ = some (.int .i64 s) ∧ wz.cell? ⟨gA, 3, none⟩ = some (.slice la2 live.length lc2)))) (fun _ q => q.1) _ _ _ _ ?_
        refine wpAnyH_take (i := 4) (oi := ihf4) (v := .pointer (some ⟨gA, 0, none⟩)) rfl (by kernel_rfl) (by kernel_rfl) (by kernel_rfl) (fun _ _ _ h => h) (.inl ⟨rfl, by intro wz hz; obtain ⟨⟨q0, q1, q2, q3, q4, q5, q6⟩, ⟨h0, h1, h2, h3⟩⟩ := hz; unfold ihf4; go_simp⟩) ⟨NK.out _ BX71.out, S3.out.j⟩ ?_
        simp only [ihf4, Act.put, List.setIfInBounds_toArray, List.set_cons_succ, List.set_cons_zero]
        refine wpAnyH_take (i := 5) (oi := ihf5) (v := .agg #[.int .i64 p, .int .i64 c, .int .i64 s, .slice la2 live.length lc2]) rfl (by kernel_rfl) (by kernel_rfl) (by kernel_rfl) (fun _ _ _ h => h) (.inl ⟨rfl, by intro wz hz; obtain ⟨⟨q0, q1, q2, q3, q4, q5, q6⟩, ⟨h0, h1, h2, h3⟩⟩ := hz; unfold ihf5; go_simp⟩) ⟨NK.out _ BX71.out, S3.out.j⟩ ?_
        simp only [ihf5, Act.put, List.setIfInBounds_toArray, List.set_cons_succ, List.set_cons_zero]
        refine wpAnyH_ready (rs := [9]) (by kernel_rfl) (by simp) ?_
        refine AllReadyH.cons (o := ihf9) rfl (fun K hK => ?_) AllReadyH.nil
        obtain ⟨a9, c9, X72, hrun, o9, tu⟩ := appAll_run w1.heap.size X71 BX71.out.size (X59.heap.size) E6.out.own oa offs offs.length oc rfl (IO.out.keep BX71.out) HOF.out
        have BX72 : Hid (Below w1.heap.size w1 X72) := BX71.out.trans (tu.below (fun i e => by rw [e]; exact E6.out.ge) BX71.out.size)
        have S3 := Hid.mk' (S3.out.tu tu NG.out NLA.out VI.out)
        have B14 := Hid.mk' (B14.out.tu tu N6.out)
        have O9 : Hid (OwnsI X72 w1.heap.size a9 offs c9) := o9
        refine step_app rfl _ _ 22 rfl (.slice (some ⟨X59.heap.size, 0, none⟩) 0 0) (.slice oa offs.length oc) rfl rfl _ _ hrun ?_
        refine hK.out _ _ ⟨NK.out _ BX72.out, S3.out.j⟩ (fun _ => ?_)
        clear hK K
        try simp only [ihf9, Act.put, List.setIfInBounds_toArray, List.set_cons_succ, List.set_cons_zero]
        clear hrun o9 tu
        refine wpAnyH_ready (rs := [12]) (by kernel_rfl) (by simp) ?_
        refine AllReadyH.cons (o := ihf12) rfl (fun K hK => ?_) AllReadyH.nil
        unfold ihf12
        go_simp
        refine (copy_any ba bc bytes.length bytes X72 rfl (IB.out.keep BX72.out) HBY.out).mono ?_
        rintro e X73 ⟨g12, c12, rfl, o12, bX73⟩
        go_wp2_with fail
        have BX73 : Hid (Below w1.heap.size w1 X73) := BX72.out.trans (bX73.mono BX72.out.size)
        have S3 := Hid.mk' (S3.out.keep bX73)
        have B14 := Hid.mk' (B14.out.keep bX73)
        have O9 := Hid.mk' (OwnsI.keep O9.out bX73)
        have Y12 : Hid (OwnsB X73 w1.heap.size (some ⟨g12, 0, none⟩) bytes c12) := OwnsB.mono o12 BX72.out.size
        refine hK.out _ _ ⟨NK.out _ BX73.out, S3.out.j⟩ (fun _ => ?_)
        clear hK K
        try simp only [ihf12, Act.put, List.setIfInBounds_toArray, List.set_cons_succ, List.set_cons_zero]
        clear o12 bX73
        refine wpAnyH_take (i := 13) (oi := ihf13) (v := .agg #[.int .i64 p, .int .i64 c, .int .i64 s, .slice la2 live.length lc2, .int .i64 0, .slice a9 offs.length c9, .slice (some ⟨g12, 0, none⟩) bytes.length c12]) rfl (by kernel_rfl) (by kernel_rfl) (by kernel_rfl) (fun _ _ _ h => h) (.inl ⟨rfl, by intro wz hz; obtain ⟨⟨q0, q1, q2, q3, q4, q5, q6⟩, ⟨h0, h1, h2, h3⟩⟩ := hz; unfold ihf13; go_simp⟩) ⟨NK.out _ BX73.out, S3.out.j⟩ ?_
        simp only [ihf13, Act.put, List.setIfInBounds_toArray, List.set_cons_succ, List.set_cons_zero]
        obtain ⟨m0, m1, m2, m3, m4, m5, m6⟩ := icell B14.out.row
        have f00 := ithawed B14.out.row 0
        have f01 := ithawed B14.out.row 1
        have f02 := ithawed B14.out.row 2
        have f03 := ithawed B14.out.row 3
        have f04 := ithawed B14.out.row 4
        have f05 := ithawed B14.out.row 5
        have f06 := ithawed B14.out.row 6
        obtain ⟨LW, hLW⟩ : ∃ LW, lay7 X73 (X0.heap.size) (.int .i64 p) (.int .i64 c) (.int .i64 s) (.slice la2 live.length lc2) (.int .i64 0) (.slice a9 offs.length c9) (.slice (some ⟨g12, 0, none⟩) bytes.length c12) = LW := ⟨_, rfl⟩
        have LV : Hid (LW = (((((((X73.setCell ⟨X0.heap.size, 0, none⟩ (.int .i64 p)).setCell ⟨X0.heap.size, 1, none⟩ (.int .i64 c)).setCell ⟨X0.heap.size, 2, none⟩ (.int .i64 s)).setCell ⟨X0.heap.size, 3, none⟩ (.slice la2 live.length lc2)).setCell ⟨X0.heap.size, 4, none⟩ (.int .i64 0)).setCell ⟨X0.heap.size, 5, none⟩ (.slice a9 offs.length c9)).setCell ⟨X0.heap.size, 6, none⟩ (.slice (some ⟨g12, 0, none⟩) bytes.length c12))) := by show _ = _; rw [← hLW]; rfl
        have PO : Hid (MvP w1 LW (X0.heap.size) p c s 0 la2 lc2 a9 c9 (some ⟨g12, 0, none⟩) c12 live offs bytes ∧ (LW.cell? ⟨gA, 0, none⟩ = some (.int .i64 p) ∧ LW.cell? ⟨gA, 1, none⟩ = some (.int .i64 c) ∧ LW.cell? ⟨gA, 2, none⟩ = some (.int .i64 s) ∧ LW.cell? ⟨gA, 3, none⟩ = some (.slice la2 live.length lc2))) := by show _ ∧ _; rw [← hLW]; exact mvP_lay BX73.out S3.out B14.out O9.out Y12.out NA.out VI.out VO.out AY.out
        clear hLW
        refine wpAnyH_ready (rs := [15]) (by kernel_rfl) (by simp) ?_
        refine AllReadyH.cons (o := ihf15) rfl (fun K hK => ?_) AllReadyH.nil
        unfold ihf15
        go_simp
        rw [← LV.out]
        refine hK.out _ _ ⟨NK.out _ PO.out.1.low, PO.out.2⟩ (fun _ => ?_)
        clear hK K
        try simp only [ihf15, Act.put, List.setIfInBounds_toArray, List.set_cons_succ, List.set_cons_zero]
        refine wpAnyH_done (by kernel_rfl) ?_ _
        go_wp2
        go_meet
        exact ⟨_, _, _, _, _, _, _, rfl, PO.out.1⟩
  case rest =>
    obtain ⟨g, la2, lc2, a9, c9, b2, c12, rfl, hM⟩ := hcut
    have MV : Hid (MvP w1 wc g p c s 0 la2 lc2 a9 c9 b2 c12 live offs bytes) := hM
    obtain ⟨c0, c1, c2, c3, c4, c5, c6⟩ := NK.out _ hM.low
    have NW : Hid (w.heap.size + 1 < w1.heap.size) := by show _ < _; have := BE1.out.size; have := ZE.out; omega
    have BWC : Hid (Below w.heap.size w wc) := B1.out.trans (hM.low.mono B1.out.size)
    have RR : Hid (wc.heap[w.heap.size + 1]? = some (.cells (icells 0 0 0 none 0 0 0 none 0 0 none 0 0) 34 (0, 0))) := by show _ = _; rw [hM.low.block _ NW.out]; exact RES.out
    clear hM
    by_cases ho : offs = []
    · have HO0 : Hid (offs = []) := ho
      have q : ¬ (0 : Int) < (offs.length : Int) := by rw [ho]; simp
      clear ho
      obtain ⟨m0, m1, m2, m3, m4, m5, m6⟩ := icell MV.out.row
      obtain ⟨r0, r1, r2, r3, r4, r5, r6⟩ := icell RR.out
      have fr0 := ithawed RR.out 0
      have fr1 := ithawed RR.out 1
      have fr2 := ithawed RR.out 2
      have fr3 := ithawed RR.out 3
      have fr4 := ithawed RR.out 4
      have fr5 := ithawed RR.out 5
      have fr6 := ithawed RR.out 6
      have on := lay7_only wc (w.heap.size + 1) (.int .i64 p) (.int .i64 c) (.int .i64 s) (.slice la2 live.length lc2) (.int .i64 0) (.slice a9 offs.length c9) (.slice b2 bytes.length c12)
      obtain ⟨LW, hLW⟩ : ∃ LW, lay7 wc (w.heap.size + 1) (.int .i64 p) (.int .i64 c) (.int .i64 s) (.slice la2 live.length lc2) (.int .i64 0) (.slice a9 offs.length c9) (.slice b2 bytes.length c12) = LW := ⟨_, rfl⟩
      have rL : LW.heap[w.heap.size + 1]? = some (.cells (icells p c s la2 live.length lc2 0 a9 offs.length c9 b2 bytes.length c12) 34 (0, 0)) := by rw [← hLW]; exact lay7_row RR.out
      have LV : Hid (LW = (((((((wc.setCell ⟨w.heap.size + 1, 0, none⟩ (.int .i64 p)).setCell ⟨w.heap.size + 1, 1, none⟩ (.int .i64 c)).setCell ⟨w.heap.size + 1, 2, none⟩ (.int .i64 s)).setCell ⟨w.heap.size + 1, 3, none⟩ (.slice la2 live.length lc2)).setCell ⟨w.heap.size + 1, 4, none⟩ (.int .i64 0)).setCell ⟨w.heap.size + 1, 5, none⟩ (.slice a9 offs.length c9)).setCell ⟨w.heap.size + 1, 6, none⟩ (.slice b2 bytes.length c12))) := by show _ = _; rw [← hLW]; rfl
      rw [hLW] at on
      obtain ⟨u0, u1, u2, u3, u4, u5, u6⟩ := icell rL
      have BL : Hid (Below w.heap.size w LW) := (BWC.out).trans (on.below (show w.heap.size ≤ w.heap.size + 1 by omega))
      have ON : Hid (Only (w.heap.size + 1) wc LW) := on
      clear on hLW rL
      go_wp2
      rw [← LV.out]
      refine bodyPost_ret (v := .tuple #[.agg #[.int .i64 p, .int .i64 c, .int .i64 s, .slice la2 live.length lc2, .int .i64 0, .slice a9 offs.length c9, .slice b2 bytes.length c12], .int .i64 0]) (by simp [results, Tryd.results8, go_sem, u0, u1, u2, u3, u4, u5, u6]) rfl ?_
      unfold MoveD
      rw [show moveG ⟨p, c, s, live, base, offs, bytes⟩ t n = (⟨p, c, s, live, 0, [], bytes⟩, 0) from move_none H.out HA.out HO0.out]
      exact ⟨la2, lc2, a9, c9, b2, c12, by rw [HO0.out], MV.out.li.low ON.out NW.out, by have := MV.out.oi.low ON.out NW.out; rw [HO0.out] at this; exact this, MV.out.bi.low ON.out NW.out, BL.out⟩
    · have HN : Hid (offs ≠ []) := ho
      have q : (0 : Int) < (offs.length : Int) := by have := List.length_pos_iff.2 ho; omega
      clear ho
      obtain ⟨RB, hRB⟩ : ∃ R, applyB bytes offs base t n = R := ⟨_, rfl⟩
      have HRB : Hid (applyB bytes offs base t n = RB) := hRB
      obtain ⟨er, her⟩ : ∃ R, applyE bytes offs base t n = R := ⟨_, rfl⟩
      have HER : Hid (applyE bytes offs base t n = er) := her
      clear hRB her
      go_wp2_with fail
      refine (roapply_any ba oa bc oc bytes offs base t n wc (IB.out.keep MV.out.low) HBC.out (IO.out.keep MV.out.low) HMO.out HBY.out).mono ?_
      rw [HRB.out, HER.out]
      rintro e w5 ⟨a5, k5, rfl, i5, b5⟩
      have M5 : Hid (MvP w1 w5 g p c s 0 la2 lc2 a9 c9 b2 c12 live offs bytes) := MV.out.keep b5
      have I5 : Hid (IsB w5 a5 RB) := i5
      have B5 : Hid (Below wc.heap.size wc w5) := b5
      have BW5 : Hid (Below w.heap.size w w5) := BWC.out.trans (b5.mono BWC.out.size)
      have RR : Hid (w5.heap[w.heap.size + 1]? = some (.cells (icells 0 0 0 none 0 0 0 none 0 0 none 0 0) 34 (0, 0))) := by show _ = _; rw [b5.block _ (row_lt RR.out)]; exact RR.out
      obtain ⟨d0, d1, d2, d3, d4, d5, d6⟩ := NK.out _ M5.out.low
      clear i5 b5 c0 c1 c2 c3 c4 c5 c6
      by_cases h0 : er = 0
      · subst h0
        obtain ⟨m0, m1, m2, m3, m4, m5, m6⟩ := icell M5.out.row
        have fg4 := ithawed M5.out.row 4
        have fg6 := ithawed M5.out.row 6
        have HM : Hid (moveG ⟨p, c, s, live, base, offs, bytes⟩ t n = (⟨p, c, s, live, t, offs, RB⟩, 0)) := by show _ = _; rw [move_ok H.out HA.out HN.out (by show _ = _; rw [HER.out])]; show (Im.mk p c s live t offs (applyB bytes offs base t n), (0 : Int)) = _; rw [HRB.out]
        obtain ⟨W6, hW6⟩ : ∃ W6, (w5.setCell ⟨g, 4, none⟩ (.int .i64 t)).setCell ⟨g, 6, none⟩ (.slice a5 RB.length k5) = W6 := ⟨_, rfl⟩
        have o6 : Only g w5 W6 := by rw [← hW6]; exact (Only.set g 4 _ w5).trans (Only.set g 6 _ _)
        have R6 : Hid (W6.heap[g]? = some (.cells (icells p c s la2 live.length lc2 t a9 offs.length c9 a5 RB.length k5) 34 (0, 0))) := by show _ = _; rw [← hW6]; exact row_set46 M5.out.row
        have ng : w.heap.size + 1 ≠ g := by have := M5.out.ge; have := NW.out; omega
        have RR : Hid (W6.heap[w.heap.size + 1]? = some (.cells (icells 0 0 0 none 0 0 0 none 0 0 none 0 0) 34 (0, 0))) := by show _ = _; rw [o6.block _ ng]; exact RR.out
        have I6 : Hid (IsB W6 a5 RB) := isB_only I5.out M5.out.row o6
        have L6 : Hid (FarI w1 W6 g la2 live) := M5.out.li.only o6
        have O6 : Hid (FarI w1 W6 g a9 offs) := M5.out.oi.only o6
        have B6 : Hid (Below w.heap.size w W6) := BW5.out.trans (o6.below (by have := M5.out.ge; have := NW.out; omega))
        have H6 : Hid (W6 = (w5.setCell ⟨g, 4, none⟩ (.int .i64 t)).setCell ⟨g, 6, none⟩ (.slice a5 RB.length k5)) := hW6.symm
        clear hW6 o6
        go_upto_region 11 with (fail)
        rw [← H6.out]
        clear m0 m1 m2 m3 m4 m5 m6 fg4 fg6 d0 d1 d2 d3 d4 d5 d6
        obtain ⟨m0, m1, m2, m3, m4, m5, m6⟩ := icell R6.out
        obtain ⟨r0, r1, r2, r3, r4, r5, r6⟩ := icell RR.out
        have fr0 := ithawed RR.out 0
        have fr1 := ithawed RR.out 1
        have fr2 := ithawed RR.out 2
        have fr3 := ithawed RR.out 3
        have fr4 := ithawed RR.out 4
        have fr5 := ithawed RR.out 5
        have fr6 := ithawed RR.out 6
        have on := lay7_only W6 (w.heap.size + 1) (.int .i64 p) (.int .i64 c) (.int .i64 s) (.slice la2 live.length lc2) (.int .i64 t) (.slice a9 offs.length c9) (.slice a5 RB.length k5)
        obtain ⟨LW, hLW⟩ : ∃ LW, lay7 W6 (w.heap.size + 1) (.int .i64 p) (.int .i64 c) (.int .i64 s) (.slice la2 live.length lc2) (.int .i64 t) (.slice a9 offs.length c9) (.slice a5 RB.length k5) = LW := ⟨_, rfl⟩
        have rL : LW.heap[w.heap.size + 1]? = some (.cells (icells p c s la2 live.length lc2 t a9 offs.length c9 a5 RB.length k5) 34 (0, 0)) := by rw [← hLW]; exact lay7_row RR.out
        have LV : Hid (LW = (((((((W6.setCell ⟨w.heap.size + 1, 0, none⟩ (.int .i64 p)).setCell ⟨w.heap.size + 1, 1, none⟩ (.int .i64 c)).setCell ⟨w.heap.size + 1, 2, none⟩ (.int .i64 s)).setCell ⟨w.heap.size + 1, 3, none⟩ (.slice la2 live.length lc2)).setCell ⟨w.heap.size + 1, 4, none⟩ (.int .i64 t)).setCell ⟨w.heap.size + 1, 5, none⟩ (.slice a9 offs.length c9)).setCell ⟨w.heap.size + 1, 6, none⟩ (.slice a5 RB.length k5))) := by show _ = _; rw [← hLW]; rfl
        rw [hLW] at on
        obtain ⟨u0, u1, u2, u3, u4, u5, u6⟩ := icell rL
        have BL : Hid (Below w.heap.size w LW) := (B6.out).trans (on.below (show w.heap.size ≤ w.heap.size + 1 by omega))
        have ON : Hid (Only (w.heap.size + 1) W6 LW) := on
        clear on hLW rL
        go_wp2
        rw [← LV.out]
        refine bodyPost_ret (v := .tuple #[.agg #[.int .i64 p, .int .i64 c, .int .i64 s, .slice la2 live.length lc2, .int .i64 t, .slice a9 offs.length c9, .slice a5 RB.length k5], .int .i64 0]) (by simp [results, Tryd.results8, go_sem, u0, u1, u2, u3, u4, u5, u6]) rfl ?_
        unfold MoveD
        rw [HM.out]
        exact ⟨la2, lc2, a9, c9, a5, k5, rfl, L6.out.low ON.out NW.out, O6.out.low ON.out NW.out, isB_only I6.out RR.out ON.out, BL.out⟩
      · have hne : (er != 0) = true := bne_iff_ne.2 h0
        have H0 : Hid (er ≠ 0) := h0
        obtain ⟨r0, r1, r2, r3, r4, r5, r6⟩ := icell RR.out
        have fr0 := ithawed RR.out 0
        have fr1 := ithawed RR.out 1
        have fr2 := ithawed RR.out 2
        have fr3 := ithawed RR.out 3
        have fr4 := ithawed RR.out 4
        have fr5 := ithawed RR.out 5
        have fr6 := ithawed RR.out 6
        have on := lay7_only w5 (w.heap.size + 1) (.int .i64 0) (.int .i64 0) (.int .i64 0) (.slice none 0 0) (.int .i64 0) (.slice none 0 0) (.slice none 0 0)
        obtain ⟨LW, hLW⟩ : ∃ LW, lay7 w5 (w.heap.size + 1) (.int .i64 0) (.int .i64 0) (.int .i64 0) (.slice none 0 0) (.int .i64 0) (.slice none 0 0) (.slice none 0 0) = LW := ⟨_, rfl⟩
        have rL : LW.heap[w.heap.size + 1]? = some (.cells (icells 0 0 0 none 0 0 0 none 0 0 none 0 0) 34 (0, 0)) := by rw [← hLW]; exact lay7_row RR.out
        have LV : Hid (LW = (((((((w5.setCell ⟨w.heap.size + 1, 0, none⟩ (.int .i64 0)).setCell ⟨w.heap.size + 1, 1, none⟩ (.int .i64 0)).setCell ⟨w.heap.size + 1, 2, none⟩ (.int .i64 0)).setCell ⟨w.heap.size + 1, 3, none⟩ (.slice none 0 0)).setCell ⟨w.heap.size + 1, 4, none⟩ (.int .i64 0)).setCell ⟨w.heap.size + 1, 5, none⟩ (.slice none 0 0)).setCell ⟨w.heap.size + 1, 6, none⟩ (.slice none 0 0))) := by show _ = _; rw [← hLW]; rfl
        rw [hLW] at on
        obtain ⟨u0, u1, u2, u3, u4, u5, u6⟩ := icell rL
        have BL : Hid (Below w.heap.size w LW) := (BW5.out).trans (on.below (show w.heap.size ≤ w.heap.size + 1 by omega))
        have ON : Hid (Only (w.heap.size + 1) w5 LW) := on
        clear on hLW rL
        go_wp2
        rw [← LV.out]
        refine bodyPost_ret (v := .tuple #[.agg #[.int .i64 0, .int .i64 0, .int .i64 0, .slice none 0 0, .int .i64 0, .slice none 0 0, .slice none 0 0], .int .i64 er]) (by simp [results, Tryd.results8, go_sem, u0, u1, u2, u3, u4, u5, u6]) rfl ?_
        have hm : moveG ⟨p, c, s, live, base, offs, bytes⟩ t n = (noIm, er) := by rw [move_addr H.out HA.out HN.out (by show ¬ _; rw [HER.out]; exact H0.out)]; show (noIm, applyE bytes offs base t n) = _; rw [HER.out]
        unfold MoveD
        rw [hm]
        exact ⟨none, 0, none, 0, none, 0, rfl, ⟨(fun x h => by cases h), .inl rfl⟩, ⟨(fun x h => by cases h), .inl rfl⟩, IsB.nil _ _, BL.out⟩
theorem dmove_any (p c s base : Int) (la oa ba : Option Addr) (lc oc bc : Nat) (live offs bytes : List Int) (t n : Int) (w : World)
    (hL : IsI w la live) (hO : IsI w oa offs) (hB : IsB w ba bytes) (hlv : live.length ≤ 17592186044416) (hof : offs.length ≤ 17592186044416) (hby : bytes.length ≤ 140737488355328) (hbc : bytes.length ≤ bc) :
    Calls Tryd.prog 8 #[.agg #[.int .i64 p, .int .i64 c, .int .i64 s, .slice la live.length lc, .int .i64 base, .slice oa offs.length oc, .slice ba bytes.length bc], .int .i64 t, .int .i64 n] w (MoveD w ⟨p, c, s, live, base, offs, bytes⟩ t n) := by
  have q1 : live.length ≤ maxLen := by unfold maxLen; omega
  have q2 : offs.length ≤ maxLen := by unfold maxLen; omega
  have q3 : bytes.length ≤ maxLen := by unfold maxLen; omega
  cases hR : rightG ⟨p, c, s, live, base, offs, bytes⟩
  · exact (dmove_form p c s base la oa ba lc oc bc live offs bytes t n w hR hL hO q1 q2 q3).mono fun e w' h => moved_no (move_form hR) h
  · by_cases hA : goesA t n
    · exact dmove_good p c s base la oa ba lc oc bc live offs bytes t n w hR hL hO q1 q2 q3 hB hlv hof hby hbc hA
    · exact (dmove_arg p c s base la oa ba lc oc bc live offs bytes t n w hR hL hO q1 q2 q3 hA).mono fun e w' h => moved_no (move_arg hR hA) h
end Go.Proofs.YtbfamjnnlcopiaaDoor
