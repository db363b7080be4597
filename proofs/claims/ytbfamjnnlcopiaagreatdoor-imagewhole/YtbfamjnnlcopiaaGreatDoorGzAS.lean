/- Layer 17: Size and Right of the code. -/
import Derived.Test.YtbfamjnnlcopiaaGreatDoorGzAK
import Derived.Test.YtbfamjnnlcopiaaGreatDoorGzAF
import Derived.Test.YtbfamjnnlcopiaaGreatDoorGzAR
import Derived.Test.YtbfamjnnlcopiaaGreatDoorAuA
import Derived.Deep.RegionHeld3
namespace Go.Proofs.YtbfamjnnlcopiaaGreatDoor
open Go.RowKit
set_option linter.unusedVariables false
set_option maxRecDepth 4000

/-- An image's cells. -/
def icells (p c s : Int) (la : Option Addr) (ln lc : Nat) (base : Int) (oa : Option Addr) (on oc : Nat) (ba : Option Addr) (bn bc : Nat) : Array Value := #[.int .i64 p, .int .i64 c, .int .i64 s, .slice la ln lc, .int .i64 base, .slice oa on oc, .slice ba bn bc]
theorem ibox (t : TypeId) (w : World) (p c s : Int) (la : Option Addr) (ln lc : Nat) (base : Int) (oa : Option Addr) (on oc : Nat) (ba : Option Addr) (bn bc : Nat) : ∃ w1, w.alloc (.cells #[.int .i64 p, .int .i64 c, .int .i64 s, .slice la ln lc, .int .i64 base, .slice oa on oc, .slice ba bn bc] t) = w1 ∧ w1.heap.size = w.heap.size + 1 ∧ w1.heap[w.heap.size]? = some (.cells (icells p c s la ln lc base oa on oc ba bn bc) t (0, 0)) ∧ Below w.heap.size w w1 :=
  ⟨_, rfl, by simp, Go.heap_alloc_new w _, (Below.refl _ w).alloc (Nat.le_refl _) _⟩
/-- The seven cells of an image. -/
structure Ic (w : World) (g : Nat) (p c s : Int) (la : Option Addr) (ln lc : Nat) (base : Int) (oa : Option Addr) (on oc : Nat) (ba : Option Addr) (bn bc : Nat) : Prop where
  c0 : w.cell? ⟨g, 0, none⟩ = some (.int .i64 p)
  c1 : w.cell? ⟨g, 1, none⟩ = some (.int .i64 c)
  c2 : w.cell? ⟨g, 2, none⟩ = some (.int .i64 s)
  c3 : w.cell? ⟨g, 3, none⟩ = some (.slice la ln lc)
  c4 : w.cell? ⟨g, 4, none⟩ = some (.int .i64 base)
  c5 : w.cell? ⟨g, 5, none⟩ = some (.slice oa on oc)
  c6 : w.cell? ⟨g, 6, none⟩ = some (.slice ba bn bc)
theorem icell {t : TypeId} {w : World} {g : Nat} {p c s : Int} {la : Option Addr} {ln lc : Nat} {base : Int} {oa : Option Addr} {on oc : Nat} {ba : Option Addr} {bn bc : Nat} (h : w.heap[g]? = some (.cells (icells p c s la ln lc base oa on oc ba bn bc) t (0, 0))) : Ic w g p c s la ln lc base oa on oc ba bn bc :=
  ⟨cell_of_row _ _ 0 _ _ _ h, cell_of_row _ _ 1 _ _ _ h, cell_of_row _ _ 2 _ _ _ h, cell_of_row _ _ 3 _ _ _ h, cell_of_row _ _ 4 _ _ _ h, cell_of_row _ _ 5 _ _ _ h, cell_of_row _ _ 6 _ _ _ h⟩
theorem Ic.keep {w w' : World} {g : Nat} {p c s : Int} {la : Option Addr} {ln lc : Nat} {base : Int} {oa : Option Addr} {on oc : Nat} {ba : Option Addr} {bn bc : Nat} (h : Ic w g p c s la ln lc base oa on oc ba bn bc) (hb : Below w.heap.size w w') : Ic w' g p c s la ln lc base oa on oc ba bn bc :=
  ⟨bcell hb h.c0, bcell hb h.c1, bcell hb h.c2, bcell hb h.c3, bcell hb h.c4, bcell hb h.c5, bcell hb h.c6⟩
theorem Ic.drewN {w : World} {g : Nat} {p c s : Int} {la : Option Addr} {ln lc : Nat} {base : Int} {oa : Option Addr} {on oc : Nat} {ba : Option Addr} {bn bc : Nat} (h : Ic w g p c s la ln lc base oa on oc ba bn bc) (m : Nat) : Ic (w.drewN m) g p c s la ln lc base oa on oc ba bn bc := ⟨h.c0, h.c1, h.c2, h.c3, h.c4, h.c5, h.c6⟩
theorem Ic.drew {w : World} {g : Nat} {p c s : Int} {la : Option Addr} {ln lc : Nat} {base : Int} {oa : Option Addr} {on oc : Nat} {ba : Option Addr} {bn bc : Nat} (h : Ic w g p c s la ln lc base oa on oc ba bn bc) : Ic w.drew g p c s la ln lc base oa on oc ba bn bc := ⟨h.c0, h.c1, h.c2, h.c3, h.c4, h.c5, h.c6⟩
def i64' (x : Int) : Prop := -9223372036854775808 ≤ x ∧ x ≤ 9223372036854775807

/-- Of a span that may not be, or whose slots may not. -/
theorem iof_no (p c s : Int) (a : Option Addr) (n k : Nat) (l : List Int) (w : World) (hn : n = l.length) (hT : Tabs w) (hI : IsI w a l) (hm : l.length ≤ maxLen) (hp : i64' p) (h : spOk p c s l = false) :
    Calls Tryz.prog 61 #[.agg #[.int .i64 p, .int .i64 c, .int .i64 s, .slice a n k]] w fun e w' => ∃ x, x ≠ 0 ∧ e = .returned (.tuple #[.pointer none, .int .i64 x]) ∧ Below w.heap.size w w' := by
  subst hn
  by_cases hx : newE p c s = 0
  · have hl : okL (slN c) (-1) l = false := by
      cases q : okL (slN c) (-1) l
      · rfl
      · rw [spOk_iff.2 ⟨hx, q⟩] at h; cases h
    exact (of_form p c s a k l w hT hI hm hx hl).mono fun e w' q => ⟨4, by decide, q.1, q.2⟩
  · exact (of_bad p c s a l.length k w hT hp _ rfl hx).mono fun e w' q => ⟨_, hx, q.1, q.2⟩
theorem iof_yes (p c s : Int) (a : Option Addr) (n k : Nat) (l : List Int) (w : World) (hn : n = l.length) (hT : Tabs w) (hI : IsI w a l) (hm : l.length ≤ maxLen) (h : spOk p c s l = true) :
    Calls Tryz.prog 61 #[.agg #[.int .i64 p, .int .i64 c, .int .i64 s, .slice a n k]] w fun e w' => ∃ sb b g, e = .returned (.tuple #[.pointer (some ⟨sb, 0, none⟩), .int .i64 0]) ∧ Spn w w' sb b g p c s (fOf l) := by
  subst hn
  obtain ⟨h1, h2⟩ := spOk_iff.1 h
  exact of_ok p c s a k l w hT hI hm h1 h2

set_option maxRecDepth 20000 in
set_option maxHeartbeats 2000000 in
/-- Size. -/
theorem isize_any (p c s : Int) (a : Option Addr) (n k : Nat) (l : List Int) (z : Int) (w : World) (hn : n = l.length) (hz : sizeG p c s l = z) (hT : Tabs w) (hI : IsI w a l) (hm : l.length ≤ maxLen) (hp : i64' p) :
    Calls Tryz.prog 24 #[.agg #[.int .i64 p, .int .i64 c, .int .i64 s, .slice a n k]] w fun e w' => e = .returned (.int .i64 z) ∧ Below w.heap.size w w' := by
  obtain ⟨D, hD, zD, rD, bD⟩ := dbox w p c s a n k
  have HD : Hid (w.alloc (.cells #[.int .i64 p, .int .i64 c, .int .i64 s, .slice a n k] 33) = D) := hD
  have BD : Hid (Below w.heap.size w D) := bD
  have TD : Hid (Tabs D) := hT.keep bD
  have ID : Hid (IsI D a l) := hI.keep bD
  have c0 := dcell0 rD
  have c1 := dcell1 rD
  have c2 := dcell2 rD
  have c3 := dcell3 rD
  have HN : Hid (n = l.length) := hn
  have HM : Hid (l.length ≤ maxLen) := hm
  have HP : Hid (i64' p) := hp
  clear hD zD rD bD hT hI hn hm hp
  cases h : spOk p c s l
  · have HZ : Hid (z = 0) := by show z = 0; rw [← hz, sizeG, if_neg (by rw [h]; decide)]
    have H : Hid (spOk p c s l = false) := h
    clear h hz
    go_enter Tryz.func24, Tryz.ntmps24
    go_upto_region 1 with (fail)
    rw [HD.out]
    go_wp2_with (first
      | (go_at_call 61; refine (iof_no p c s a n k l D HN.out TD.out ID.out HM.out HP.out H.out).mono ?_; rintro e w1 ⟨x, hx, rfl, b1⟩; have B1 : Hid (Below w.heap.size w w1) := BD.out.trans (b1.mono BD.out.size); clear b1 hx)
      | (go_at_call 62; refine (live_nil _).mono ?_; rintro e w' ⟨rfl, rfl⟩)
      | (go_at_call 63; refine (size_nil _).mono ?_; rintro e w' ⟨rfl, rfl⟩))
    go_ret
    exact ⟨ret_int (by rw [HZ.out]), B1.out⟩
  · have e1 := size_bd h
    obtain ⟨k1, k2⟩ := spOk_iff.1 h
    have RT : Hid (Rt p c s) := newE_rt k1
    obtain ⟨Z, hZ⟩ : ∃ Z, szI c s = Z := ⟨_, rfl⟩
    have HZ : Hid (szI c s = Z) := hZ
    obtain ⟨f1, f2, f3, f4, f5, _⟩ := RT.out.facts
    obtain ⟨L, hL⟩ : ∃ L, l.length = L := ⟨_, rfl⟩
    have hl := live_le k2
    have HC : Hid (cnt (fOf l) (slN c) = L) := by show _ = _; rw [← lsL_len, ls_of k2, hL]
    rw [hz, hZ, hL] at e1
    have z1 : Z ≤ 4096 := by omega
    have z0 : 1 ≤ Z := by omega
    have l1 : L ≤ 16 := by omega
    have HE : Hid ((L : Int) * Z = z) := e1.1.symm
    have wr : IntKind.i64.wrap ((L : Int) * Z) = z := by rw [e1.1.symm, IntKind.wrap_i64]; omega
    have y0 : 0 ≤ z := e1.2.1
    have y1 : z ≤ 4096 := e1.2.2
    have H : Hid (spOk p c s l = true) := h
    clear h hz e1 k1 k2 f1 f2 f3 f4 f5 hZ hl hL
    go_enter Tryz.func24, Tryz.ntmps24
    go_upto_region 1 with (fail)
    rw [HD.out]
    go_wp2_with (first
      | (go_at_call 61; refine (iof_yes p c s a n k l D HN.out TD.out ID.out HM.out H.out).mono ?_; rintro e w1 ⟨sb, b, g, rfl, s1⟩; have S1 : Hid (Spn D w1 sb b g p c s (fOf l)) := s1; clear s1)
      | (go_at_call 62; refine (live_any sb b g p c s (fOf l) _ S1.out.at').mono ?_; rw [HC.out]; rintro e w' ⟨rfl, rfl⟩)
      | (go_at_call 63; refine (size_rt sb p c s _ S1.out.at'.box (TD.out.keep S1.out.low).1 RT.out Z HZ.out).mono ?_; rintro e w' ⟨rfl, rfl⟩))
    go_ret
    exact ⟨ret_int (by first | rfl | exact wr | exact HE.out), BD.out.trans (S1.out.low.mono BD.out.size)⟩
end Go.Proofs.YtbfamjnnlcopiaaGreatDoor

/- Layer 17: Right of the code. -/
namespace Go.Proofs.YtbfamjnnlcopiaaGreatDoor
open Go.RowKit
set_option linter.unusedVariables false
set_option maxRecDepth 4000

theorem right_no1 {m : Im} (h : spOk m.p m.c m.s m.live = false) : rightG m = false := by rw [rightG, h, Bool.false_and]
theorem right_no2 {m : Im} (h : (m.bytes.length : Int) ≠ sizeG m.p m.c m.s m.live) : rightG m = false := by rw [rightG, decide_eq_false h, Bool.false_and, Bool.and_false]
theorem right_no3 {m : Im} (h : rrightT m.bytes.length m.offs = false) : rightG m = false := by rw [rightG, h, Bool.false_and, Bool.and_false, Bool.and_false]
/-! The operations of the test of image.go:41, whose order the model draws. -/
def igb0 : Oper := { dst := some 13, op := Op.fieldAddr 35 (Operand.tmp 1) 3, type := 0, pos := "image.go:41", after := #[], guard := none }
def igb1 : Oper := { dst := some 14, op := Op.load 25 (Operand.tmp 13), type := 25, pos := "image.go:41", after := #[{ on := 0, ground := Ground.data }], guard := none }
def igb2 : Oper := { dst := some 15, op := Op.call { callee := Callee.builtin Builtin.len, args := #[Operand.tmp 14], argTypes := #[25] }, type := 3, pos := "image.go:41", after := #[{ on := 1, ground := Ground.data }], guard := none }
def igb3 : Oper := { dst := some 16, op := Op.fieldAddr 35 (Operand.tmp 1) 0, type := 0, pos := "image.go:41", after := #[], guard := none }
def igb4 : Oper := { dst := some 17, op := Op.load 33 (Operand.tmp 16), type := 33, pos := "image.go:41", after := #[{ on := 3, ground := Ground.data }], guard := none }
def igb5 : Oper := { dst := some 18, op := Op.call { callee := Callee.value (Operand.func 24), args := #[Operand.tmp 17], argTypes := #[33] }, type := 3, pos := "image.go:41", after := #[{ on := 4, ground := Ground.data }], guard := none }
def igb6 : Oper := { dst := some 19, op := Op.binOp BinOp.neq 3 (Operand.tmp 15) (Operand.tmp 18) 3, type := 4, pos := "image.go:41", after := #[{ on := 2, ground := Ground.data }, { on := 5, ground := Ground.data }], guard := none }
def igb7 : Oper := { dst := some 20, op := Op.move (Operand.tmp 19), type := 4, pos := "image.go:41", after := #[{ on := 6, ground := Ground.data }, { on := 5, ground := Ground.chain }], guard := none }
def igb8 : Oper := { dst := some 21, op := Op.fieldAddr 35 (Operand.tmp 1) 2, type := 0, pos := "image.go:41", after := #[{ on := 7, ground := Ground.guard }], guard := some (7, false) }
def igb9 : Oper := { dst := some 22, op := Op.load 31 (Operand.tmp 21), type := 31, pos := "image.go:41", after := #[{ on := 8, ground := Ground.data }, { on := 7, ground := Ground.guard }], guard := some (7, false) }
def igb10 : Oper := { dst := some 23, op := Op.fieldAddr 35 (Operand.tmp 1) 3, type := 0, pos := "image.go:41", after := #[{ on := 7, ground := Ground.guard }], guard := some (7, false) }
def igb11 : Oper := { dst := some 24, op := Op.load 25 (Operand.tmp 23), type := 25, pos := "image.go:41", after := #[{ on := 10, ground := Ground.data }, { on := 7, ground := Ground.guard }], guard := some (7, false) }
def igb12 : Oper := { dst := some 25, op := Op.call { callee := Callee.builtin Builtin.len, args := #[Operand.tmp 24], argTypes := #[25] }, type := 3, pos := "image.go:41", after := #[{ on := 11, ground := Ground.data }, { on := 7, ground := Ground.guard }], guard := some (7, false) }
def igb13 : Oper := { dst := some 26, op := Op.call { callee := Callee.value (Operand.func 74), args := #[Operand.tmp 22, Operand.tmp 25], argTypes := #[31, 3] }, type := 4, pos := "image.go:41", after := #[{ on := 9, ground := Ground.data }, { on := 12, ground := Ground.data }, { on := 7, ground := Ground.chain }, { on := 7, ground := Ground.guard }], guard := some (7, false) }
def igb14 : Oper := { dst := some 27, op := Op.unOp UnOp.not 4 (Operand.tmp 26), type := 4, pos := "image.go:41", after := #[{ on := 13, ground := Ground.data }, { on := 7, ground := Ground.guard }], guard := some (7, false) }
def igb15 : Oper := { dst := some 28, op := Op.pick (Operand.tmp 20) (Operand.const (Value.bool true)) (Operand.tmp 27), type := 4, pos := "image.go:41", after := #[{ on := 7, ground := Ground.data }, { on := 14, ground := Ground.data }], guard := none }
set_option maxRecDepth 20000 in
set_option maxHeartbeats 4000000 in
theorem iright_any (p c s base : Int) (la oa ba : Option Addr) (ln lc on oc bn bc : Nat) (live offs bytes : List Int) (v : Bool) (w : World) (hln : ln = live.length) (hon : on = offs.length) (hbn : bn = bytes.length) (hv : rightG ⟨p, c, s, live, base, offs, bytes⟩ = v)
    (hT : Tabs w) (hL : IsI w la live) (hO : IsI w oa offs) (hml : live.length ≤ maxLen) (hmo : offs.length ≤ maxLen) (hmb : bytes.length ≤ maxLen) (hp : i64' p) :
    Calls Tryz.prog 44 #[.agg #[.int .i64 p, .int .i64 c, .int .i64 s, .slice la ln lc, .int .i64 base, .slice oa on oc, .slice ba bn bc]] w fun e w' => e = .returned (.bool v) ∧ Below w.heap.size w w' := by
  obtain ⟨D, hD, zD, rD, bD⟩ := ibox 35 w p c s la ln lc base oa on oc ba bn bc
  have HD : Hid (w.alloc (.cells #[.int .i64 p, .int .i64 c, .int .i64 s, .slice la ln lc, .int .i64 base, .slice oa on oc, .slice ba bn bc] 35) = D) := hD
  have BD : Hid (Below w.heap.size w D) := bD
  have TD : Hid (Tabs D) := hT.keep bD
  have LD : Hid (IsI D la live) := hL.keep bD
  have OD : Hid (IsI D oa offs) := hO.keep bD
  have CD : Hid (Ic D w.heap.size p c s la ln lc base oa on oc ba bn bc) := icell rD
  obtain ⟨c0, c1, c2, c3, c4, c5, c6⟩ := icell rD
  have HLN : Hid (ln = live.length) := hln
  have HON : Hid (on = offs.length) := hon
  have HML : Hid (live.length ≤ maxLen) := hml
  have HMO : Hid (offs.length ≤ maxLen) := hmo
  have hbm : bn ≤ 9223372036854775807 := by unfold maxLen at hmb; omega
  have HP : Hid (i64' p) := hp
  have HBN : Hid (bn = bytes.length) := hbn
  clear hD zD rD bD hT hL hO hln hon hml hmo hmb hp
  cases h : spOk p c s live
  · have HV : Hid (v = false) := by show v = false; rw [← hv]; exact right_no1 h
    have H : Hid (spOk p c s live = false) := h
    clear h hv hbn
    go_enter Tryz.func44, Tryz.ntmps44
    go_upto_region 1 with (fail)
    rw [HD.out]
    go_wp2_with (go_at_call 61; refine (iof_no p c s la ln lc live D HLN.out TD.out LD.out HML.out HP.out H.out).mono ?_; rintro e w1 ⟨x, hx, rfl, b1⟩; have hne : (x != 0) = true := bne_iff_ne.2 hx; have B1 : Hid (Below w.heap.size w w1) := BD.out.trans (b1.mono BD.out.size); clear b1 hx)
    go_ret
    exact ⟨ret_bool HV.out.symm, B1.out⟩
  obtain ⟨Z, hZ⟩ : ∃ Z, sizeG p c s live = Z := ⟨_, rfl⟩
  have HZ : Hid (sizeG p c s live = Z) := hZ
  have z0 : 0 ≤ Z := by rw [← hZ]; exact (size_range p c s live).1
  have z1 : Z ≤ 4096 := by rw [← hZ]; exact (size_range p c s live).2
  have H : Hid (spOk p c s live = true) := h
  by_cases hb : (bn : Int) = Z
  rotate_left
  · have HV : Hid (v = false) := by show v = false; rw [← hv]; exact right_no2 (m := ⟨p, c, s, live, base, offs, bytes⟩) (by show (bytes.length : Int) ≠ sizeG p c s live; rw [hZ, ← hbn]; exact hb)
    have hq : (((bn : Nat) : Int) != Z) = true := bne_iff_ne.2 hb
    clear h hv hbn hb hZ
    go_enter Tryz.func44, Tryz.ntmps44
    go_upto_region 1 with (fail)
    rw [HD.out]
    go_wp2_with (go_at_call 61; refine (iof_yes p c s la ln lc live D HLN.out TD.out LD.out HML.out H.out).mono ?_; rintro e w1 ⟨sb, b, g, rfl, s1⟩; have B1 : Hid (Below D.heap.size D w1) := s1.low; have C1 : Hid (Ic w1 w.heap.size p c s la ln lc base oa on oc ba bn bc) := CD.out.keep s1.low; clear s1 c0 c1 c2 c3 c4 c5 c6)
    have N1 : Hid (w1.cell? ⟨w.heap.size, 0, none⟩ = some (.int .i64 p) ∧ w1.cell? ⟨w.heap.size, 1, none⟩ = some (.int .i64 c) ∧ w1.cell? ⟨w.heap.size, 2, none⟩ = some (.int .i64 s) ∧ w1.cell? ⟨w.heap.size, 3, none⟩ = some (.slice la ln lc) ∧ w1.cell? ⟨w.heap.size, 5, none⟩ = some (.slice oa on oc) ∧ w1.cell? ⟨w.heap.size, 6, none⟩ = some (.slice ba bn bc)) := ⟨C1.out.c0, C1.out.c1, C1.out.c2, C1.out.c3, C1.out.c5, C1.out.c6⟩
    refine wp_region_held_drew (S := (fun w' => w'.cell? ⟨w.heap.size, 0, none⟩ = some (.int .i64 p) ∧ w'.cell? ⟨w.heap.size, 1, none⟩ = some (.int .i64 c) ∧ w'.cell? ⟨w.heap.size, 2, none⟩ = some (.int .i64 s) ∧ w'.cell? ⟨w.heap.size, 3, none⟩ = some (.slice la ln lc) ∧ w'.cell? ⟨w.heap.size, 5, none⟩ = some (.slice oa on oc) ∧ w'.cell? ⟨w.heap.size, 6, none⟩ = some (.slice ba bn bc))) (by kernel_rfl) N1.out (fun _ => ?_)
    refine wpAnyH_take (i := 0) (oi := igb0) (v := .pointer (some ⟨w.heap.size, 6, none⟩)) rfl (by kernel_rfl) (by kernel_rfl) (by kernel_rfl) (fun _ _ _ h => h) (.inl ⟨rfl, by intro wz hz; obtain ⟨q0, q1, q2, q3, q5, q6⟩ := hz; unfold igb0; go_simp⟩) N1.out ?_
    simp only [igb0, Act.put, List.setIfInBounds_toArray, List.set_cons_succ, List.set_cons_zero]
    refine wpAnyH_take (i := 1) (oi := igb1) (v := .slice ba bn bc) rfl (by kernel_rfl) (by kernel_rfl) (by kernel_rfl) (fun _ _ _ h => h) (.inl ⟨rfl, by intro wz hz; obtain ⟨q0, q1, q2, q3, q5, q6⟩ := hz; unfold igb1; go_simp⟩) N1.out ?_
    simp only [igb1, Act.put, List.setIfInBounds_toArray, List.set_cons_succ, List.set_cons_zero]
    refine wpAnyH_take (i := 2) (oi := igb2) (v := .int .i64 (bn : Nat)) rfl (by kernel_rfl) (by kernel_rfl) (by kernel_rfl) (fun _ _ _ h => h) (.inl ⟨rfl, by intro wz hz; obtain ⟨q0, q1, q2, q3, q5, q6⟩ := hz; unfold igb2; go_simp⟩) N1.out ?_
    simp only [igb2, Act.put, List.setIfInBounds_toArray, List.set_cons_succ, List.set_cons_zero]
    refine wpAnyH_take (i := 3) (oi := igb3) (v := .pointer (some ⟨w.heap.size, 0, none⟩)) rfl (by kernel_rfl) (by kernel_rfl) (by kernel_rfl) (fun _ _ _ h => h) (.inl ⟨rfl, by intro wz hz; obtain ⟨q0, q1, q2, q3, q5, q6⟩ := hz; unfold igb3; go_simp⟩) N1.out ?_
    simp only [igb3, Act.put, List.setIfInBounds_toArray, List.set_cons_succ, List.set_cons_zero]
    refine wpAnyH_take (i := 4) (oi := igb4) (v := .agg #[.int .i64 p, .int .i64 c, .int .i64 s, .slice la ln lc]) rfl (by kernel_rfl) (by kernel_rfl) (by kernel_rfl) (fun _ _ _ h => h) (.inl ⟨rfl, by intro wz hz; obtain ⟨q0, q1, q2, q3, q5, q6⟩ := hz; unfold igb4; go_simp⟩) N1.out ?_
    simp only [igb4, Act.put, List.setIfInBounds_toArray, List.set_cons_succ, List.set_cons_zero]
    refine wpAnyH_ready (rs := [5]) (by kernel_rfl) (by simp) ?_
    refine AllReadyH.cons (o := igb5) rfl (fun K hK => ?_) AllReadyH.nil
    unfold igb5
    go_simp
    refine (isize_any p c s la ln lc live Z _ HLN.out HZ.out ((TD.out.keep B1.out).drew) ((LD.out.keep B1.out).drew) HML.out HP.out).mono ?_
    rintro e w2 ⟨rfl, b2⟩
    have B2 : Hid (Below D.heap.size D w2) := B1.out.trans ((Below.ofDrew b2).mono B1.out.size)
    have C2 : Hid (Ic w2 w.heap.size p c s la ln lc base oa on oc ba bn bc) := CD.out.keep B2.out
    have N2 : Hid ((fun w' => w'.cell? ⟨w.heap.size, 0, none⟩ = some (.int .i64 p) ∧ w'.cell? ⟨w.heap.size, 1, none⟩ = some (.int .i64 c) ∧ w'.cell? ⟨w.heap.size, 2, none⟩ = some (.int .i64 s) ∧ w'.cell? ⟨w.heap.size, 3, none⟩ = some (.slice la ln lc) ∧ w'.cell? ⟨w.heap.size, 5, none⟩ = some (.slice oa on oc) ∧ w'.cell? ⟨w.heap.size, 6, none⟩ = some (.slice ba bn bc)) w2) := ⟨C2.out.c0, C2.out.c1, C2.out.c2, C2.out.c3, C2.out.c5, C2.out.c6⟩
    clear b2
    go_wp2_with fail
    refine hK.out _ _ N2.out (fun _ => ?_)
    clear hK K
    try simp only [igb5, Act.put, List.setIfInBounds_toArray, List.set_cons_succ, List.set_cons_zero]
    refine wpAnyH_take (i := 6) (oi := igb6) (v := .bool true) rfl (by kernel_rfl) (by kernel_rfl) (by kernel_rfl) (fun _ _ _ h => h) (.inl ⟨rfl, by intro wz hz; obtain ⟨q0, q1, q2, q3, q5, q6⟩ := hz; unfold igb6; go_simp⟩) N2.out ?_
    simp only [igb6, Act.put, List.setIfInBounds_toArray, List.set_cons_succ, List.set_cons_zero]
    refine wpAnyH_take (i := 7) (oi := igb7) (v := .bool true) rfl (by kernel_rfl) (by kernel_rfl) (by kernel_rfl) (fun _ _ _ h => h) (.inl ⟨rfl, by intro wz hz; obtain ⟨q0, q1, q2, q3, q5, q6⟩ := hz; unfold igb7; go_simp⟩) N2.out ?_
    simp only [igb7, Act.put, List.setIfInBounds_toArray, List.set_cons_succ, List.set_cons_zero]
    refine wpAnyH_take (i := 8) (oi := igb8) (v := undef) rfl (by kernel_rfl) (by kernel_rfl) (by kernel_rfl) (fun _ _ _ h => h) (.inr ⟨rfl, rfl⟩) N2.out ?_
    simp only [igb8, Act.put, List.setIfInBounds_toArray, List.set_cons_succ, List.set_cons_zero]
    refine wpAnyH_take (i := 9) (oi := igb9) (v := undef) rfl (by kernel_rfl) (by kernel_rfl) (by kernel_rfl) (fun _ _ _ h => h) (.inr ⟨rfl, rfl⟩) N2.out ?_
    simp only [igb9, Act.put, List.setIfInBounds_toArray, List.set_cons_succ, List.set_cons_zero]
    refine wpAnyH_take (i := 10) (oi := igb10) (v := undef) rfl (by kernel_rfl) (by kernel_rfl) (by kernel_rfl) (fun _ _ _ h => h) (.inr ⟨rfl, rfl⟩) N2.out ?_
    simp only [igb10, Act.put, List.setIfInBounds_toArray, List.set_cons_succ, List.set_cons_zero]
    refine wpAnyH_take (i := 11) (oi := igb11) (v := undef) rfl (by kernel_rfl) (by kernel_rfl) (by kernel_rfl) (fun _ _ _ h => h) (.inr ⟨rfl, rfl⟩) N2.out ?_
    simp only [igb11, Act.put, List.setIfInBounds_toArray, List.set_cons_succ, List.set_cons_zero]
    refine wpAnyH_take (i := 12) (oi := igb12) (v := undef) rfl (by kernel_rfl) (by kernel_rfl) (by kernel_rfl) (fun _ _ _ h => h) (.inr ⟨rfl, rfl⟩) N2.out ?_
    simp only [igb12, Act.put, List.setIfInBounds_toArray, List.set_cons_succ, List.set_cons_zero]
    refine wpAnyH_take (i := 13) (oi := igb13) (v := undef) rfl (by kernel_rfl) (by kernel_rfl) (by kernel_rfl) (fun _ _ _ h => h) (.inr ⟨rfl, rfl⟩) N2.out ?_
    simp only [igb13, Act.put, List.setIfInBounds_toArray, List.set_cons_succ, List.set_cons_zero]
    refine wpAnyH_take (i := 14) (oi := igb14) (v := undef) rfl (by kernel_rfl) (by kernel_rfl) (by kernel_rfl) (fun _ _ _ h => h) (.inr ⟨rfl, rfl⟩) N2.out ?_
    simp only [igb14, Act.put, List.setIfInBounds_toArray, List.set_cons_succ, List.set_cons_zero]
    refine wpAnyH_take (i := 15) (oi := igb15) (v := .bool true) rfl (by kernel_rfl) (by kernel_rfl) (by kernel_rfl) (fun _ _ _ h => h) (.inl ⟨rfl, by intro wz hz; obtain ⟨q0, q1, q2, q3, q5, q6⟩ := hz; unfold igb15; go_simp⟩) N2.out ?_
    simp only [igb15, Act.put, List.setIfInBounds_toArray, List.set_cons_succ, List.set_cons_zero]
    refine wpAnyH_done (by kernel_rfl) ?_ _
    go_wp2
    go_ret
    exact ⟨ret_bool HV.out.symm, BD.out.trans (B2.out.mono BD.out.size)⟩
  have hq : (((bn : Nat) : Int) != Z) = false := by rw [bne_eq_false_iff_eq]; exact hb
  obtain ⟨r, hr⟩ : ∃ r, rrightT (bn : Nat) offs = r := ⟨_, rfl⟩
  have HR : Hid (rrightT (bn : Nat) offs = r) := hr
  have HIN : Hid (-9223372036854775808 ≤ ((bn : Nat) : Int) ∧ ((bn : Nat) : Int) ≤ 9223372036854775807) := ⟨by omega, by omega⟩
  have HN1 : Hid (r = false → v = false) := fun e => by rw [← hv]; exact right_no3 (m := ⟨p, c, s, live, base, offs, bytes⟩) (by show rrightT (bytes.length : Nat) offs = false; rw [← hbn, hr, e])
  have HN2 : Hid (r = true → v = decide (goodR base ∨ (base = 0 ∧ offs = []))) := fun e => by
    rw [← hv, rightG]
    show (spOk p c s live && (decide ((bytes.length : Int) = sizeG p c s live) && (rrightT (bytes.length : Nat) offs && decide (goodR base ∨ (base = 0 ∧ offs = []))))) = _
    rw [h, ← hbn, hr, e, decide_eq_true (by rw [hZ]; exact hb)]
    simp
  clear h hv hbn hb hr hZ
  go_enter Tryz.func44, Tryz.ntmps44
  go_upto_region 1 with (fail)
  rw [HD.out]
  go_wp2_with (go_at_call 61; refine (iof_yes p c s la ln lc live D HLN.out TD.out LD.out HML.out H.out).mono ?_; rintro e w1 ⟨sb, b, g, rfl, s1⟩; have B1 : Hid (Below D.heap.size D w1) := s1.low; have C1 : Hid (Ic w1 w.heap.size p c s la ln lc base oa on oc ba bn bc) := CD.out.keep s1.low; clear s1 c0 c1 c2 c3 c4 c5 c6)
  have N1 : Hid (w1.cell? ⟨w.heap.size, 0, none⟩ = some (.int .i64 p) ∧ w1.cell? ⟨w.heap.size, 1, none⟩ = some (.int .i64 c) ∧ w1.cell? ⟨w.heap.size, 2, none⟩ = some (.int .i64 s) ∧ w1.cell? ⟨w.heap.size, 3, none⟩ = some (.slice la ln lc) ∧ w1.cell? ⟨w.heap.size, 5, none⟩ = some (.slice oa on oc) ∧ w1.cell? ⟨w.heap.size, 6, none⟩ = some (.slice ba bn bc)) := ⟨C1.out.c0, C1.out.c1, C1.out.c2, C1.out.c3, C1.out.c5, C1.out.c6⟩
  go_region_held3 (fun w' => w'.cell? ⟨w.heap.size, 0, none⟩ = some (.int .i64 p) ∧ w'.cell? ⟨w.heap.size, 1, none⟩ = some (.int .i64 c) ∧ w'.cell? ⟨w.heap.size, 2, none⟩ = some (.int .i64 s) ∧ w'.cell? ⟨w.heap.size, 3, none⟩ = some (.slice la ln lc) ∧ w'.cell? ⟨w.heap.size, 5, none⟩ = some (.slice oa on oc) ∧ w'.cell? ⟨w.heap.size, 6, none⟩ = some (.slice ba bn bc)) (first | exact N2.out | exact N1.out)
    (first
    | (go_at_call 74; refine (oright_is oa oc on offs (bn : Nat) r _ HON.out HR.out (OD.out.keep B2.out) HMO.out HIN.out).mono ?_; rintro e w3 ⟨rfl, rfl⟩)
    | (go_at_call 24; refine (isize_any p c s la ln lc live Z _ HLN.out HZ.out ((TD.out.keep B1.out).drew) ((LD.out.keep B1.out).drew) HML.out HP.out).mono ?_; rintro e w2 ⟨rfl, b2⟩; have B2 : Hid (Below D.heap.size D w2) := B1.out.trans ((Below.ofDrew b2).mono B1.out.size); have C2 : Hid (Ic w2 w.heap.size p c s la ln lc base oa on oc ba bn bc) := CD.out.keep B2.out; have N2 : Hid (w2.cell? ⟨w.heap.size, 0, none⟩ = some (.int .i64 p) ∧ w2.cell? ⟨w.heap.size, 1, none⟩ = some (.int .i64 c) ∧ w2.cell? ⟨w.heap.size, 2, none⟩ = some (.int .i64 s) ∧ w2.cell? ⟨w.heap.size, 3, none⟩ = some (.slice la ln lc) ∧ w2.cell? ⟨w.heap.size, 5, none⟩ = some (.slice oa on oc) ∧ w2.cell? ⟨w.heap.size, 6, none⟩ = some (.slice ba bn bc)) := ⟨C2.out.c0, C2.out.c1, C2.out.c2, C2.out.c3, C2.out.c5, C2.out.c6⟩; clear b2))
  have BW : Hid (Below w.heap.size w w2) := BD.out.trans (B2.out.mono BD.out.size)
  obtain ⟨d0, d1, d2, d3, d4, d5, d6⟩ := C2.out
  cases r
  · have HV : Hid (v = false) := HN1.out rfl
    go_wp2
    go_ret
    exact ⟨ret_bool HV.out.symm, BW.out⟩
  · have HV : Hid (v = decide (goodR base ∨ (base = 0 ∧ offs = []))) := HN2.out rfl
    by_cases hg : goodR base
    · have HV' : Hid (v = true) := HV.out.trans (decide_eq_true (.inl hg))
      have HG : Hid (decide (goodR base) = true) := decide_eq_true hg
      clear hg
      go_wp2_with (go_at_call 55; refine (good_of base true _ HG.out).mono ?_; rintro e w3 ⟨rfl, rfl⟩)
      go_ret
      exact ⟨ret_bool HV'.out.symm, BW.out⟩
    · have HG : Hid (decide (goodR base) = false) := decide_eq_false hg
      by_cases h0 : base = 0
      · by_cases ho : offs = []
        · have HV' : Hid (v = true) := HV.out.trans (decide_eq_true (.inr ⟨h0, ho⟩))
          have k1 : (base == 0) = true := beq_iff_eq.2 h0
          have k2 : (((on : Nat) : Int) == 0) = true := by rw [HON.out, ho]; rfl
          clear hg h0 ho
          go_wp2_with (go_at_call 55; refine (good_of base false _ HG.out).mono ?_; rintro e w3 ⟨rfl, rfl⟩)
          go_ret
          exact ⟨ret_bool HV'.out.symm, BW.out⟩
        · have HV' : Hid (v = false) := HV.out.trans (decide_eq_false (fun q => q.elim hg (fun q => ho q.2)))
          have k1 : (base == 0) = true := beq_iff_eq.2 h0
          have k2 : (((on : Nat) : Int) == 0) = false := by
            rw [HON.out, beq_eq_false_iff_ne]
            intro e
            exact ho (List.eq_nil_of_length_eq_zero (by omega))
          clear hg h0 ho
          go_wp2_with (go_at_call 55; refine (good_of base false _ HG.out).mono ?_; rintro e w3 ⟨rfl, rfl⟩)
          go_ret
          exact ⟨ret_bool HV'.out.symm, BW.out⟩
      · have HV' : Hid (v = false) := HV.out.trans (decide_eq_false (fun q => q.elim hg (fun q => h0 q.1)))
        have k1 : (base == 0) = false := beq_eq_false_iff_ne.2 h0
        clear hg h0
        go_wp2_with (go_at_call 55; refine (good_of base false _ HG.out).mono ?_; rintro e w3 ⟨rfl, rfl⟩)
        go_ret
        exact ⟨ret_bool HV'.out.symm, BW.out⟩
end Go.Proofs.YtbfamjnnlcopiaaGreatDoor
