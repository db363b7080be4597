/- Layer 17: Move of the code, its good arm. -/
import Derived.Test.YtbfamjnnlcopiaaGreatDoorGzBC
import Derived.Test.YtbfamjnnlcopiaaGreatDoorGzAW
import Derived.Test.YtbfamjnnlcopiaaGreatDoorGzAU
import Derived.Deep.RegionHeld3
namespace Go.Proofs.YtbfamjnnlcopiaaGreatDoor
open Go.RowKit
set_option linter.unusedVariables false
set_option maxRecDepth 4000

structure BoC (E W : World) (g : Nat) : Prop where
  ge : E.heap.size ≤ g
  row : W.heap[g]? = some (.cells (icells 0 0 0 none 0 0 0 none 0 0 none 0 0) 35 (0, 0))
theorem BoC.keep {E W W' : World} {g : Nat} (h : BoC E W g) (b : Below W.heap.size W W') : BoC E W' g := ⟨h.ge, by rw [b.block g (row_lt h.row)]; exact h.row⟩
/-- The image that is made, in its box; its list of slots is still the old one. -/
structure MvQ (E W : World) (g : Nat) (p c s base : Int) (la : Option Addr) (lc : Nat) (a9 : Option Addr) (c9 : Nat) (b2 : Option Addr) (c12 : Nat) (live offs bytes : List Int) : Prop where
  ge : E.heap.size ≤ g
  row : W.heap[g]? = some (.cells (icells p c s la live.length lc base a9 offs.length c9 b2 bytes.length c12) 35 (0, 0))
  oi : FarI E W g a9 offs
  bi : FarB E W g b2 bytes
  cap : bytes.length ≤ c12
  low : Below E.heap.size E W
theorem MvQ.keep {E W W' : World} {g : Nat} {p c s base : Int} {la2 : Option Addr} {lc2 : Nat} {a9 : Option Addr} {c9 : Nat} {b2 : Option Addr} {c12 : Nat} {live offs bytes : List Int} (h : MvQ E W g p c s base la2 lc2 a9 c9 b2 c12 live offs bytes) (b : Below W.heap.size W W') : MvQ E W' g p c s base la2 lc2 a9 c9 b2 c12 live offs bytes :=
  ⟨h.ge, by rw [b.block g (row_lt h.row)]; exact h.row, h.oi.keep b, h.bi.keep b, h.cap, h.low.trans (b.mono h.low.size)⟩
theorem mvQ_lay {E W : World} {g : Nat} {p c s : Int} {la : Option Addr} {lc : Nat} {a4 : Option Addr} {k4 : Nat} {a7 : Option Addr} {k7 : Nat} {live offs bytes : List Int} (hl : Below E.heap.size E W) (h14 : BoC E W g) (h9 : OwnsI W E.heap.size a4 offs k4) (h12 : OwnsB W E.heap.size a7 bytes k7) (ho : ∀ x ∈ offs, -9223372036854775808 ≤ x ∧ x ≤ 9223372036854775807) (hb : AllB bytes) :
    MvQ E (lay7 W g (.int .i64 p) (.int .i64 c) (.int .i64 s) (.slice la live.length lc) (.int .i64 0) (.slice a4 offs.length k4) (.slice a7 bytes.length k7)) g p c s 0 la lc a4 k4 a7 k7 live offs bytes := by
  have on := lay7_only W g (.int .i64 p) (.int .i64 c) (.int .i64 s) (.slice la live.length lc) (.int .i64 0) (.slice a4 offs.length k4) (.slice a7 bytes.length k7)
  have t3 : (35 : TypeId) ≠ 3 := by decide
  have t5 : (35 : TypeId) ≠ 5 := by decide
  exact ⟨h14.ge, lay7_row h14.row, FarI.only ⟨ownsI_isI ho h9, fun ad e => ⟨ownsI_ge h9 ad e, ownsI_ne h9 h14.row t3 ad e⟩⟩ on, FarB.only ⟨ownsB_isB hb h12, fun ad e => ⟨byB_ge h12 ad e, ownsB_ne h12 h14.row t5 ad e⟩⟩ on, ownsB_cap h12, hl.trans (on.below h14.ge)⟩

/-- What Move of the code leaves behind; its list of slots lies in new memory. -/
def MoveN (w : World) (m : Im) (t n : Int) (e : Ending) (w' : World) : Prop :=
  ∃ la lc oa oc ba bc, e = .returned (.tuple #[.agg #[.int .i64 (moveG m t n).1.p, .int .i64 (moveG m t n).1.c, .int .i64 (moveG m t n).1.s, .slice la (moveG m t n).1.live.length lc, .int .i64 (moveG m t n).1.base, .slice oa (moveG m t n).1.offs.length oc, .slice ba (moveG m t n).1.bytes.length bc], .int .i64 (moveG m t n).2]) ∧ IsI w' la (moveG m t n).1.live ∧ IsI w' oa (moveG m t n).1.offs ∧ IsB w' ba (moveG m t n).1.bytes ∧ (moveG m t n).1.bytes.length ≤ bc ∧ (∀ ad, la = some ad → w.heap.size ≤ ad.block) ∧ ((moveG m t n).1.bytes = [] ∨ ∀ ad, ba = some ad → w.heap.size ≤ ad.block) ∧ Below w.heap.size w w'
theorem MoveN.c {w w' : World} {m : Im} {t n : Int} {e : Ending} (h : MoveN w m t n e w') : MoveC w m t n e w' := by
  obtain ⟨la, lc, oa, oc, ba, bc, h1, h2, h3, h4, h5, _, _, h6⟩ := h
  exact ⟨la, lc, oa, oc, ba, bc, h1, h2, h3, h4, h5, h6⟩
theorem movedN_no {w w' : World} {m : Im} {t n x : Int} {e : Ending} (hm : moveG m t n = (noIm, x)) (h : e = .returned (.tuple #[.agg #[.int .i64 0, .int .i64 0, .int .i64 0, .slice none 0 0, .int .i64 0, .slice none 0 0, .slice none 0 0], .int .i64 x]) ∧ Below w.heap.size w w') : MoveN w m t n e w' := by
  unfold MoveN
  rw [hm]
  exact ⟨none, 0, none, 0, none, 0, h.1, ⟨(fun x h => by cases h), .inl rfl⟩, ⟨(fun x h => by cases h), .inl rfl⟩, IsB.nil _ _, Nat.le_refl _, (fun ad e => by cases e), .inl rfl, h.2⟩

/-! The operations of image.go:101, whose order the model draws. -/
def ihj0 : Oper := { dst := some 27, op := Op.fieldAddr 35 (Operand.tmp 3) 0, type := 0, pos := "image.go:101", after := #[], guard := none }
def ihj1 : Oper := { dst := some 28, op := Op.load 33 (Operand.tmp 27), type := 33, pos := "image.go:101", after := #[{ on := 0, ground := Ground.data }], guard := none }
def ihj2 : Oper := { dst := some 29, op := Op.fieldAddr 35 (Operand.tmp 3) 2, type := 0, pos := "image.go:101", after := #[], guard := none }
def ihj3 : Oper := { dst := some 30, op := Op.load 31 (Operand.tmp 29), type := 31, pos := "image.go:101", after := #[{ on := 2, ground := Ground.data }], guard := none }
def ihj4 : Oper := { dst := some 31, op := Op.call { callee := Callee.value (Operand.func 56), args := #[Operand.tmp 30], argTypes := #[31] }, type := 31, pos := "image.go:101", after := #[{ on := 3, ground := Ground.data }], guard := none }
def ihj5 : Oper := { dst := some 32, op := Op.fieldAddr 35 (Operand.tmp 3) 3, type := 0, pos := "image.go:101", after := #[], guard := none }
def ihj6 : Oper := { dst := some 33, op := Op.load 25 (Operand.tmp 32), type := 25, pos := "image.go:101", after := #[{ on := 5, ground := Ground.data }], guard := none }
def ihj7 : Oper := { dst := some 34, op := Op.call { callee := Callee.value (Operand.func 57), args := #[Operand.tmp 33], argTypes := #[25] }, type := 25, pos := "image.go:101", after := #[{ on := 6, ground := Ground.data }, { on := 4, ground := Ground.chain }], guard := none }
def ihj8 : Oper := { dst := some 35, op := Op.build 35 #[(0, Operand.tmp 28), (2, Operand.tmp 31), (3, Operand.tmp 34)], type := 35, pos := "image.go:101", after := #[{ on := 1, ground := Ground.data }, { on := 4, ground := Ground.data }, { on := 7, ground := Ground.data }], guard := none }
def ihj9 : Oper := { dst := some 8, op := Op.alloc 35, type := 0, pos := "image.go:101", after := #[], guard := none }
def ihj10 : Oper := { dst := none, op := Op.store 35 (Operand.tmp 8) (Operand.tmp 35), type := 0, pos := "image.go:101", after := #[{ on := 9, ground := Ground.data }, { on := 8, ground := Ground.data }, { on := 7, ground := Ground.chain }, { on := 0, ground := Ground.phase }, { on := 1, ground := Ground.phase }, { on := 2, ground := Ground.phase }, { on := 3, ground := Ground.phase }, { on := 4, ground := Ground.phase }, { on := 5, ground := Ground.phase }, { on := 6, ground := Ground.phase }, { on := 7, ground := Ground.phase }, { on := 8, ground := Ground.phase }, { on := 9, ground := Ground.phase }], guard := none }

set_option maxRecDepth 20000 in
set_option maxHeartbeats 8000000 in
theorem imove_good (p c s base : Int) (la oa ba : Option Addr) (lc oc bc : Nat) (live offs bytes : List Int) (t n : Int) (w : World) (hR : rightG ⟨p, c, s, live, base, offs, bytes⟩ = true)
    (hL : IsI w la live) (hO : IsI w oa offs) (hml : live.length ≤ maxLen) (hmo : offs.length ≤ maxLen) (hmb : bytes.length ≤ maxLen) (hB : IsB w ba bytes) (hlv : live.length ≤ 17592186044416) (hof : offs.length ≤ 17592186044416) (hby : bytes.length ≤ 140737488355328) (hbc : bytes.length ≤ bc) (hA : goesA t n) (hT : Tabs w) (hp : i64' p) :
    Calls Tryz.prog 18 #[.agg #[.int .i64 p, .int .i64 c, .int .i64 s, .slice la live.length lc, .int .i64 base, .slice oa offs.length oc, .slice ba bytes.length bc], .int .i64 t, .int .i64 n] w (MoveN w ⟨p, c, s, live, base, offs, bytes⟩ t n) := by
  obtain ⟨D, hD, zD, rD, bD⟩ := ibox 35 w p c s la live.length lc base oa offs.length oc ba bytes.length bc
  have HD : Hid (w.alloc (.cells #[.int .i64 p, .int .i64 c, .int .i64 s, .slice la live.length lc, .int .i64 base, .slice oa offs.length oc, .slice ba bytes.length bc] 35) = D) := hD
  obtain ⟨E, hE, zE, rE, bE⟩ := ibox 35 D 0 0 0 none 0 0 0 none 0 0 none 0 0
  have HE : Hid (D.alloc (.cells #[.int .i64 0, .int .i64 0, .int .i64 0, .slice none 0 0, .int .i64 0, .slice none 0 0, .slice none 0 0] 35) = E) := hE
  rw [zD] at rE zE
  have BE : Hid (Below w.heap.size w E) := bD.trans (bE.mono (by omega))
  have RE : Hid (E.heap[w.heap.size + 1]? = some (.cells (icells 0 0 0 none 0 0 0 none 0 0 none 0 0) 35 (0, 0))) := rE
  have ZE : Hid (E.heap.size = w.heap.size + 1 + 1) := zE
  have LE : Hid (IsI E la live) := hL.keep BE.out
  have OE : Hid (IsI E oa offs) := hO.keep BE.out
  have TE : Hid (Tabs E) := hT.keep BE.out
  have HP : Hid (i64' p) := hp
  have CE : Hid (Ic E w.heap.size p c s la live.length lc base oa offs.length oc ba bytes.length bc) := (icell rD).keep bE
  obtain ⟨c0, c1, c2, c3, c4, c5, c6⟩ := (icell rD).keep bE
  have HML : Hid (live.length ≤ maxLen) := hml
  have HMO : Hid (offs.length ≤ maxLen) := hmo
  have HMB : Hid (bytes.length ≤ maxLen) := hmb
  have H : Hid (rightG ⟨p, c, s, live, base, offs, bytes⟩ = true) := hR
  have BBE : Hid (IsB E ba bytes) := hB.keep BE.out
  have HLV : Hid (live.length ≤ 17592186044416) := hlv
  have HOF : Hid (offs.length ≤ 17592186044416) := hof
  have HBY : Hid (bytes.length ≤ 140737488355328) := hby
  have HBC : Hid (bytes.length ≤ bc) := hbc
  have HG : Hid (decide (goodR t) = true) := decide_eq_true hA.1
  have n0 : 0 ≤ n := hA.2.1
  have n1 : n ≤ 1048576 := hA.2.2
  have HA : Hid (goesA t n) := hA
  clear hB hlv hof hby hbc hA
  clear hD zD rD bD hL hO hml hmo hmb hR hE zE rE bE
  go_enter Tryz.func18, Tryz.ntmps18
  go_upto_region 1 with (fail)
  rw [HD.out, HE.out]
  go_wp2_with fail
  refine (iright_any p c s base la oa ba _ lc _ oc _ bc live offs bytes true _ rfl rfl rfl H.out TE.out LE.out OE.out HML.out HMO.out HMB.out HP.out).mono ?_
  rintro e w1 ⟨rfl, b1⟩
  have B1 : Hid (Below w.heap.size w w1) := BE.out.trans (b1.mono BE.out.size)
  have BE1 : Hid (Below E.heap.size E w1) := b1
  have RES : Hid (w1.heap[w.heap.size + 1]? = some (.cells (icells 0 0 0 none 0 0 0 none 0 0 none 0 0) 35 (0, 0))) := by show _ = _; rw [b1.block (w.heap.size + 1) (by have := ZE.out; omega)]; exact RE.out
  clear b1 c0 c1 c2 c3 c4 c5 c6
  have IL : Hid (IsI w1 la live) := LE.out.keep BE1.out
  have IO : Hid (IsI w1 oa offs) := OE.out.keep BE1.out
  have IB : Hid (IsB w1 ba bytes) := BBE.out.keep BE1.out
  have VI : Hid (∀ x ∈ live, -9223372036854775808 ≤ x ∧ x ≤ 9223372036854775807) := IL.out.1
  have VO : Hid (∀ x ∈ offs, -9223372036854775808 ≤ x ∧ x ≤ 9223372036854775807) := IO.out.1
  have AY : Hid (AllB bytes) := IB.out.1
  have NK : Hid (∀ wz, Below w1.heap.size w1 wz → wz.cell? ⟨w.heap.size, 0, none⟩ = some (.int .i64 p) ∧ wz.cell? ⟨w.heap.size, 1, none⟩ = some (.int .i64 c) ∧ wz.cell? ⟨w.heap.size, 2, none⟩ = some (.int .i64 s) ∧ wz.cell? ⟨w.heap.size, 3, none⟩ = some (.slice la live.length lc) ∧ wz.cell? ⟨w.heap.size, 4, none⟩ = some (.int .i64 base) ∧ wz.cell? ⟨w.heap.size, 5, none⟩ = some (.slice oa offs.length oc) ∧ wz.cell? ⟨w.heap.size, 6, none⟩ = some (.slice ba bytes.length bc)) := fun wz b => by
    obtain ⟨j0, j1, j2, j3, j4, j5, j6⟩ := (CE.out.keep BE1.out).keep b
    exact ⟨j0, j1, j2, j3, j4, j5, j6⟩
  obtain ⟨X0, hX0⟩ : ∃ X0, w1.drew = X0 := ⟨_, rfl⟩
  have BX0 : Hid (Below w1.heap.size w1 X0) := by show Below _ _ _; rw [← hX0]; exact Below.toDrew (Below.refl _ _)
  have HX0 : Hid (w1.drew = X0) := hX0
  clear hX0
  go_upto_region 5 with (go_at_call 55; refine (good_of t true _ HG.out).mono ?_; rintro e w3 ⟨rfl, rfl⟩)
  go_cut [8] from 27 to 35 (fun v wx => ∃ g a4 k4 a7 k7, v = .pointer (some ⟨g, 0, none⟩) ∧ MvQ w1 wx g p c s 0 la lc a4 k4 a7 k7 live offs bytes)
  case first =>
    refine wp_region_held_drew (S := (fun wz => wz.cell? ⟨w.heap.size, 0, none⟩ = some (.int .i64 p) ∧ wz.cell? ⟨w.heap.size, 1, none⟩ = some (.int .i64 c) ∧ wz.cell? ⟨w.heap.size, 2, none⟩ = some (.int .i64 s) ∧ wz.cell? ⟨w.heap.size, 3, none⟩ = some (.slice la live.length lc) ∧ wz.cell? ⟨w.heap.size, 4, none⟩ = some (.int .i64 base) ∧ wz.cell? ⟨w.heap.size, 5, none⟩ = some (.slice oa offs.length oc) ∧ wz.cell? ⟨w.heap.size, 6, none⟩ = some (.slice ba bytes.length bc))) (by kernel_rfl) (by rw [HX0.out]; exact NK.out _ BX0.out) (fun _ => ?_)
    rw [HX0.out]
    refine wpAnyH_take (i := 0) (oi := ihj0) (v := .pointer (some ⟨w.heap.size, 0, none⟩)) rfl (by kernel_rfl) (by kernel_rfl) (by kernel_rfl) (fun _ _ _ h => h) (.inl ⟨rfl, by intro wz hz; obtain ⟨q0, q1, q2, q3, q4, q5, q6⟩ := hz; unfold ihj0; go_simp⟩) (NK.out _ BX0.out) ?_
    simp only [ihj0, Act.put, List.setIfInBounds_toArray, List.set_cons_succ, List.set_cons_zero]
    refine wpAnyH_take (i := 1) (oi := ihj1) (v := .agg #[.int .i64 p, .int .i64 c, .int .i64 s, .slice la live.length lc]) rfl (by kernel_rfl) (by kernel_rfl) (by kernel_rfl) (fun _ _ _ h => h) (.inl ⟨rfl, by intro wz hz; obtain ⟨q0, q1, q2, q3, q4, q5, q6⟩ := hz; unfold ihj1; go_simp⟩) (NK.out _ BX0.out) ?_
    simp only [ihj1, Act.put, List.setIfInBounds_toArray, List.set_cons_succ, List.set_cons_zero]
    refine wpAnyH_take (i := 2) (oi := ihj2) (v := .pointer (some ⟨w.heap.size, 5, none⟩)) rfl (by kernel_rfl) (by kernel_rfl) (by kernel_rfl) (fun _ _ _ h => h) (.inl ⟨rfl, by intro wz hz; obtain ⟨q0, q1, q2, q3, q4, q5, q6⟩ := hz; unfold ihj2; go_simp⟩) (NK.out _ BX0.out) ?_
    simp only [ihj2, Act.put, List.setIfInBounds_toArray, List.set_cons_succ, List.set_cons_zero]
    refine wpAnyH_take (i := 3) (oi := ihj3) (v := .slice oa offs.length oc) rfl (by kernel_rfl) (by kernel_rfl) (by kernel_rfl) (fun _ _ _ h => h) (.inl ⟨rfl, by intro wz hz; obtain ⟨q0, q1, q2, q3, q4, q5, q6⟩ := hz; unfold ihj3; go_simp⟩) (NK.out _ BX0.out) ?_
    simp only [ihj3, Act.put, List.setIfInBounds_toArray, List.set_cons_succ, List.set_cons_zero]
    refine wpAnyH_take (i := 5) (oi := ihj5) (v := .pointer (some ⟨w.heap.size, 6, none⟩)) rfl (by kernel_rfl) (by kernel_rfl) (by kernel_rfl) (fun _ _ _ h => h) (.inl ⟨rfl, by intro wz hz; obtain ⟨q0, q1, q2, q3, q4, q5, q6⟩ := hz; unfold ihj5; go_simp⟩) (NK.out _ BX0.out) ?_
    simp only [ihj5, Act.put, List.setIfInBounds_toArray, List.set_cons_succ, List.set_cons_zero]
    refine wpAnyH_take (i := 6) (oi := ihj6) (v := .slice ba bytes.length bc) rfl (by kernel_rfl) (by kernel_rfl) (by kernel_rfl) (fun _ _ _ h => h) (.inl ⟨rfl, by intro wz hz; obtain ⟨q0, q1, q2, q3, q4, q5, q6⟩ := hz; unfold ihj6; go_simp⟩) (NK.out _ BX0.out) ?_
    simp only [ihj6, Act.put, List.setIfInBounds_toArray, List.set_cons_succ, List.set_cons_zero]
    refine wpAnyH_ready (rs := [4, 9]) (by kernel_rfl) (by simp) ?_
    refine AllReadyH.cons (o := ihj4) rfl (fun K hK => ?_) (AllReadyH.cons (o := ihj9) rfl (fun K hK => ?_) AllReadyH.nil)
    · unfold ihj4
      go_simp
      refine (clonei_all oa oc offs.length offs X0 rfl (IO.out.keep BX0.out) HOF.out).mono ?_
      rintro e X1 ⟨a4, k4, rfl, o4, bX1⟩
      go_wp2_with fail
      have BX1 : Hid (Below w1.heap.size w1 X1) := BX0.out.trans (bX1.mono BX0.out.size)
      have O4 : Hid (OwnsI X1 w1.heap.size a4 offs k4) := OwnsI.mono o4 BX0.out.size
      refine hK.out _ _ (NK.out _ BX1.out) (fun _ => ?_)
      clear hK K
      try simp only [ihj4, Act.put, List.setIfInBounds_toArray, List.set_cons_succ, List.set_cons_zero]
      clear o4 bX1
      refine wpAnyH_ready (rs := [7, 9]) (by kernel_rfl) (by simp) ?_
      refine AllReadyH.cons (o := ihj7) rfl (fun K hK => ?_) (AllReadyH.cons (o := ihj9) rfl (fun K hK => ?_) AllReadyH.nil)
      · unfold ihj7
        go_simp
        refine (clone_any ba bytes.length bc bytes X1 (IB.out.keep BX1.out) rfl HBY.out).mono ?_
        rintro e X2 ⟨a7, k7, rfl, o7, bX2⟩
        go_wp2_with fail
        have BX2 : Hid (Below w1.heap.size w1 X2) := BX1.out.trans (bX2.mono BX1.out.size)
        have O4 := Hid.mk' (OwnsI.keep O4.out bX2)
        have Y7 : Hid (OwnsB X2 w1.heap.size a7 bytes k7) := OwnsB.mono (fresh_own o7) BX1.out.size
        refine hK.out _ _ (NK.out _ BX2.out) (fun _ => ?_)
        clear hK K
        try simp only [ihj7, Act.put, List.setIfInBounds_toArray, List.set_cons_succ, List.set_cons_zero]
        clear o7 bX2
        refine wpAnyH_take (i := 8) (oi := ihj8) (v := .agg #[.int .i64 p, .int .i64 c, .int .i64 s, .slice la live.length lc, .int .i64 0, .slice a4 offs.length k4, .slice a7 bytes.length k7]) rfl (by kernel_rfl) (by kernel_rfl) (by kernel_rfl) (fun _ _ _ h => h) (.inl ⟨rfl, by intro wz hz; obtain ⟨q0, q1, q2, q3, q4, q5, q6⟩ := hz; unfold ihj8; go_simp⟩) (NK.out _ BX2.out) ?_
        simp only [ihj8, Act.put, List.setIfInBounds_toArray, List.set_cons_succ, List.set_cons_zero]
        refine wpAnyH_ready (rs := [9]) (by kernel_rfl) (by simp) ?_
        refine AllReadyH.cons (o := ihj9) rfl (fun K hK => ?_) AllReadyH.nil
        obtain ⟨X3, hX3, zX3, rX3, bX3⟩ := ibox 35 X2 0 0 0 none 0 0 0 none 0 0 none 0 0
        have BX3 : Hid (Below w1.heap.size w1 X3) := BX2.out.trans (bX3.mono BX2.out.size)
        have O4 := Hid.mk' (OwnsI.keep O4.out bX3)
        have Y7 := Hid.mk' (OwnsB.keep Y7.out bX3)
        have B9 : Hid (BoC w1 X3 X2.heap.size) := ⟨BX2.out.size, rX3⟩
        unfold ihj9
        go_simp
        try rw [hX3]
        refine hK.out _ _ (NK.out _ BX3.out) (fun _ => ?_)
        clear hK K
        try simp only [ihj9, Act.put, List.setIfInBounds_toArray, List.set_cons_succ, List.set_cons_zero]
        clear hX3 zX3 rX3 bX3
        obtain ⟨m0, m1, m2, m3, m4, m5, m6⟩ := icell B9.out.row
        have f00 := ithawed B9.out.row 0
        have f01 := ithawed B9.out.row 1
        have f02 := ithawed B9.out.row 2
        have f03 := ithawed B9.out.row 3
        have f04 := ithawed B9.out.row 4
        have f05 := ithawed B9.out.row 5
        have f06 := ithawed B9.out.row 6
        obtain ⟨LW, hLW⟩ : ∃ LW, lay7 X3 (X2.heap.size) (.int .i64 p) (.int .i64 c) (.int .i64 s) (.slice la live.length lc) (.int .i64 0) (.slice a4 offs.length k4) (.slice a7 bytes.length k7) = LW := ⟨_, rfl⟩
        have LV : Hid (LW = (((((((X3.setCell ⟨X2.heap.size, 0, none⟩ (.int .i64 p)).setCell ⟨X2.heap.size, 1, none⟩ (.int .i64 c)).setCell ⟨X2.heap.size, 2, none⟩ (.int .i64 s)).setCell ⟨X2.heap.size, 3, none⟩ (.slice la live.length lc)).setCell ⟨X2.heap.size, 4, none⟩ (.int .i64 0)).setCell ⟨X2.heap.size, 5, none⟩ (.slice a4 offs.length k4)).setCell ⟨X2.heap.size, 6, none⟩ (.slice a7 bytes.length k7))) := by show _ = _; rw [← hLW]; rfl
        have PO : Hid (MvQ w1 LW (X2.heap.size) p c s 0 la lc a4 k4 a7 k7 live offs bytes) := by show MvQ _ _ _ _ _ _ _ _ _ _ _ _ _ _ _ _; rw [← hLW]; exact mvQ_lay BX3.out B9.out O4.out Y7.out VO.out AY.out
        clear hLW
        refine wpAnyH_ready (rs := [10]) (by kernel_rfl) (by simp) ?_
        refine AllReadyH.cons (o := ihj10) rfl (fun K hK => ?_) AllReadyH.nil
        unfold ihj10
        go_simp
        rw [← LV.out]
        refine hK.out _ _ (NK.out _ PO.out.low) (fun _ => ?_)
        clear hK K
        try simp only [ihj10, Act.put, List.setIfInBounds_toArray, List.set_cons_succ, List.set_cons_zero]
        refine wpAnyH_done (by kernel_rfl) ?_ _
        go_wp2
        go_meet
        exact ⟨_, _, _, _, _, rfl, PO.out⟩
      · obtain ⟨X4, hX4, zX4, rX4, bX4⟩ := ibox 35 X1 0 0 0 none 0 0 0 none 0 0 none 0 0
        have BX4 : Hid (Below w1.heap.size w1 X4) := BX1.out.trans (bX4.mono BX1.out.size)
        have O4 := Hid.mk' (OwnsI.keep O4.out bX4)
        have B9 : Hid (BoC w1 X4 X1.heap.size) := ⟨BX1.out.size, rX4⟩
        unfold ihj9
        go_simp
        try rw [hX4]
        refine hK.out _ _ (NK.out _ BX4.out) (fun _ => ?_)
        clear hK K
        try simp only [ihj9, Act.put, List.setIfInBounds_toArray, List.set_cons_succ, List.set_cons_zero]
        clear hX4 zX4 rX4 bX4
        refine wpAnyH_ready (rs := [7]) (by kernel_rfl) (by simp) ?_
        refine AllReadyH.cons (o := ihj7) rfl (fun K hK => ?_) AllReadyH.nil
        unfold ihj7
        go_simp
        refine (clone_any ba bytes.length bc bytes X4 (IB.out.keep BX4.out) rfl HBY.out).mono ?_
        rintro e X5 ⟨a7, k7, rfl, o7, bX5⟩
        go_wp2_with fail
        have BX5 : Hid (Below w1.heap.size w1 X5) := BX4.out.trans (bX5.mono BX4.out.size)
        have B9 := Hid.mk' (B9.out.keep bX5)
        have O4 := Hid.mk' (OwnsI.keep O4.out bX5)
        have Y7 : Hid (OwnsB X5 w1.heap.size a7 bytes k7) := OwnsB.mono (fresh_own o7) BX4.out.size
        refine hK.out _ _ (NK.out _ BX5.out) (fun _ => ?_)
        clear hK K
        try simp only [ihj7, Act.put, List.setIfInBounds_toArray, List.set_cons_succ, List.set_cons_zero]
        clear o7 bX5
        refine wpAnyH_take (i := 8) (oi := ihj8) (v := .agg #[.int .i64 p, .int .i64 c, .int .i64 s, .slice la live.length lc, .int .i64 0, .slice a4 offs.length k4, .slice a7 bytes.length k7]) rfl (by kernel_rfl) (by kernel_rfl) (by kernel_rfl) (fun _ _ _ h => h) (.inl ⟨rfl, by intro wz hz; obtain ⟨q0, q1, q2, q3, q4, q5, q6⟩ := hz; unfold ihj8; go_simp⟩) (NK.out _ BX5.out) ?_
        simp only [ihj8, Act.put, List.setIfInBounds_toArray, List.set_cons_succ, List.set_cons_zero]
        obtain ⟨m0, m1, m2, m3, m4, m5, m6⟩ := icell B9.out.row
        have f00 := ithawed B9.out.row 0
        have f01 := ithawed B9.out.row 1
        have f02 := ithawed B9.out.row 2
        have f03 := ithawed B9.out.row 3
        have f04 := ithawed B9.out.row 4
        have f05 := ithawed B9.out.row 5
        have f06 := ithawed B9.out.row 6
        obtain ⟨LW, hLW⟩ : ∃ LW, lay7 X5 (X1.heap.size) (.int .i64 p) (.int .i64 c) (.int .i64 s) (.slice la live.length lc) (.int .i64 0) (.slice a4 offs.length k4) (.slice a7 bytes.length k7) = LW := ⟨_, rfl⟩
        have LV : Hid (LW = (((((((X5.setCell ⟨X1.heap.size, 0, none⟩ (.int .i64 p)).setCell ⟨X1.heap.size, 1, none⟩ (.int .i64 c)).setCell ⟨X1.heap.size, 2, none⟩ (.int .i64 s)).setCell ⟨X1.heap.size, 3, none⟩ (.slice la live.length lc)).setCell ⟨X1.heap.size, 4, none⟩ (.int .i64 0)).setCell ⟨X1.heap.size, 5, none⟩ (.slice a4 offs.length k4)).setCell ⟨X1.heap.size, 6, none⟩ (.slice a7 bytes.length k7))) := by show _ = _; rw [← hLW]; rfl
        have PO : Hid (MvQ w1 LW (X1.heap.size) p c s 0 la lc a4 k4 a7 k7 live offs bytes) := by show MvQ _ _ _ _ _ _ _ _ _ _ _ _ _ _ _ _; rw [← hLW]; exact mvQ_lay BX5.out B9.out O4.out Y7.out VO.out AY.out
        clear hLW
        refine wpAnyH_ready (rs := [10]) (by kernel_rfl) (by simp) ?_
        refine AllReadyH.cons (o := ihj10) rfl (fun K hK => ?_) AllReadyH.nil
        unfold ihj10
        go_simp
        rw [← LV.out]
        refine hK.out _ _ (NK.out _ PO.out.low) (fun _ => ?_)
        clear hK K
        try simp only [ihj10, Act.put, List.setIfInBounds_toArray, List.set_cons_succ, List.set_cons_zero]
        refine wpAnyH_done (by kernel_rfl) ?_ _
        go_wp2
        go_meet
        exact ⟨_, _, _, _, _, rfl, PO.out⟩
    · obtain ⟨X6, hX6, zX6, rX6, bX6⟩ := ibox 35 X0 0 0 0 none 0 0 0 none 0 0 none 0 0
      have BX6 : Hid (Below w1.heap.size w1 X6) := BX0.out.trans (bX6.mono BX0.out.size)
      have B9 : Hid (BoC w1 X6 X0.heap.size) := ⟨BX0.out.size, rX6⟩
      unfold ihj9
      go_simp
      try rw [hX6]
      refine hK.out _ _ (NK.out _ BX6.out) (fun _ => ?_)
      clear hK K
      try simp only [ihj9, Act.put, List.setIfInBounds_toArray, List.set_cons_succ, List.set_cons_zero]
      clear hX6 zX6 rX6 bX6
      refine wpAnyH_ready (rs := [4]) (by kernel_rfl) (by simp) ?_
      refine AllReadyH.cons (o := ihj4) rfl (fun K hK => ?_) AllReadyH.nil
      unfold ihj4
      go_simp
      refine (clonei_all oa oc offs.length offs X6 rfl (IO.out.keep BX6.out) HOF.out).mono ?_
      rintro e X7 ⟨a4, k4, rfl, o4, bX7⟩
      go_wp2_with fail
      have BX7 : Hid (Below w1.heap.size w1 X7) := BX6.out.trans (bX7.mono BX6.out.size)
      have B9 := Hid.mk' (B9.out.keep bX7)
      have O4 : Hid (OwnsI X7 w1.heap.size a4 offs k4) := OwnsI.mono o4 BX6.out.size
      refine hK.out _ _ (NK.out _ BX7.out) (fun _ => ?_)
      clear hK K
      try simp only [ihj4, Act.put, List.setIfInBounds_toArray, List.set_cons_succ, List.set_cons_zero]
      clear o4 bX7
      refine wpAnyH_ready (rs := [7]) (by kernel_rfl) (by simp) ?_
      refine AllReadyH.cons (o := ihj7) rfl (fun K hK => ?_) AllReadyH.nil
      unfold ihj7
      go_simp
      refine (clone_any ba bytes.length bc bytes X7 (IB.out.keep BX7.out) rfl HBY.out).mono ?_
      rintro e X8 ⟨a7, k7, rfl, o7, bX8⟩
      go_wp2_with fail
      have BX8 : Hid (Below w1.heap.size w1 X8) := BX7.out.trans (bX8.mono BX7.out.size)
      have B9 := Hid.mk' (B9.out.keep bX8)
      have O4 := Hid.mk' (OwnsI.keep O4.out bX8)
      have Y7 : Hid (OwnsB X8 w1.heap.size a7 bytes k7) := OwnsB.mono (fresh_own o7) BX7.out.size
      refine hK.out _ _ (NK.out _ BX8.out) (fun _ => ?_)
      clear hK K
      try simp only [ihj7, Act.put, List.setIfInBounds_toArray, List.set_cons_succ, List.set_cons_zero]
      clear o7 bX8
      refine wpAnyH_take (i := 8) (oi := ihj8) (v := .agg #[.int .i64 p, .int .i64 c, .int .i64 s, .slice la live.length lc, .int .i64 0, .slice a4 offs.length k4, .slice a7 bytes.length k7]) rfl (by kernel_rfl) (by kernel_rfl) (by kernel_rfl) (fun _ _ _ h => h) (.inl ⟨rfl, by intro wz hz; obtain ⟨q0, q1, q2, q3, q4, q5, q6⟩ := hz; unfold ihj8; go_simp⟩) (NK.out _ BX8.out) ?_
      simp only [ihj8, Act.put, List.setIfInBounds_toArray, List.set_cons_succ, List.set_cons_zero]
      obtain ⟨m0, m1, m2, m3, m4, m5, m6⟩ := icell B9.out.row
      have f00 := ithawed B9.out.row 0
      have f01 := ithawed B9.out.row 1
      have f02 := ithawed B9.out.row 2
      have f03 := ithawed B9.out.row 3
      have f04 := ithawed B9.out.row 4
      have f05 := ithawed B9.out.row 5
      have f06 := ithawed B9.out.row 6
      obtain ⟨LW, hLW⟩ : ∃ LW, lay7 X8 (X0.heap.size) (.int .i64 p) (.int .i64 c) (.int .i64 s) (.slice la live.length lc) (.int .i64 0) (.slice a4 offs.length k4) (.slice a7 bytes.length k7) = LW := ⟨_, rfl⟩
      have LV : Hid (LW = (((((((X8.setCell ⟨X0.heap.size, 0, none⟩ (.int .i64 p)).setCell ⟨X0.heap.size, 1, none⟩ (.int .i64 c)).setCell ⟨X0.heap.size, 2, none⟩ (.int .i64 s)).setCell ⟨X0.heap.size, 3, none⟩ (.slice la live.length lc)).setCell ⟨X0.heap.size, 4, none⟩ (.int .i64 0)).setCell ⟨X0.heap.size, 5, none⟩ (.slice a4 offs.length k4)).setCell ⟨X0.heap.size, 6, none⟩ (.slice a7 bytes.length k7))) := by show _ = _; rw [← hLW]; rfl
      have PO : Hid (MvQ w1 LW (X0.heap.size) p c s 0 la lc a4 k4 a7 k7 live offs bytes) := by show MvQ _ _ _ _ _ _ _ _ _ _ _ _ _ _ _ _; rw [← hLW]; exact mvQ_lay BX8.out B9.out O4.out Y7.out VO.out AY.out
      clear hLW
      refine wpAnyH_ready (rs := [10]) (by kernel_rfl) (by simp) ?_
      refine AllReadyH.cons (o := ihj10) rfl (fun K hK => ?_) AllReadyH.nil
      unfold ihj10
      go_simp
      rw [← LV.out]
      refine hK.out _ _ (NK.out _ PO.out.low) (fun _ => ?_)
      clear hK K
      try simp only [ihj10, Act.put, List.setIfInBounds_toArray, List.set_cons_succ, List.set_cons_zero]
      refine wpAnyH_done (by kernel_rfl) ?_ _
      go_wp2
      go_meet
      exact ⟨_, _, _, _, _, rfl, PO.out⟩
  case rest =>
    obtain ⟨g, a4, k4, a7, k7, rfl, hM⟩ := hcut
    have MV : Hid (MvQ w1 wc g p c s 0 la lc a4 k4 a7 k7 live offs bytes) := hM
    obtain ⟨c0, c1, c2, c3, c4, c5, c6⟩ := NK.out _ hM.low
    have NW : Hid (w.heap.size + 1 < w1.heap.size) := by show _ < _; have := BE1.out.size; have := ZE.out; omega
    have BWC : Hid (Below w.heap.size w wc) := B1.out.trans (hM.low.mono B1.out.size)
    have RR : Hid (wc.heap[w.heap.size + 1]? = some (.cells (icells 0 0 0 none 0 0 0 none 0 0 none 0 0) 35 (0, 0))) := by show _ = _; rw [hM.low.block _ NW.out]; exact RES.out
    clear hM
    go_wp2_with fail
    refine (clonei_all la lc live.length live wc rfl (IL.out.keep MV.out.low) HLV.out).mono ?_
    rintro e w4 ⟨la2, lc2, rfl, o4, b4⟩
    have M4 : Hid (MvQ w1 w4 g p c s 0 la lc a4 k4 a7 k7 live offs bytes) := MV.out.keep b4
    have O4 : Hid (OwnsI w4 wc.heap.size la2 live lc2) := o4
    have BW4 : Hid (Below w.heap.size w w4) := BWC.out.trans (b4.mono BWC.out.size)
    have RR : Hid (w4.heap[w.heap.size + 1]? = some (.cells (icells 0 0 0 none 0 0 0 none 0 0 none 0 0) 35 (0, 0))) := by show _ = _; rw [b4.block _ (row_lt RR.out)]; exact RR.out
    have GC : Hid (g < wc.heap.size) := row_lt MV.out.row
    have ZC : Hid (w1.heap.size ≤ wc.heap.size) := MV.out.low.size
    clear o4 b4 c0 c1 c2 c3 c4 c5 c6
    obtain ⟨W4, hW4⟩ : ∃ W, w4.setCell ⟨g, 3, none⟩ (.slice la2 live.length lc2) = W := ⟨_, rfl⟩
    have o4 : Only g w4 W4 := by rw [← hW4]; exact Only.set g 3 _ w4
    have R4 : Hid (W4.heap[g]? = some (.cells (icells p c s la2 live.length lc2 0 a4 offs.length k4 a7 bytes.length k7) 35 (0, 0))) := by show _ = _; rw [← hW4]; exact row_set3 M4.out.row
    have ng : w.heap.size + 1 ≠ g := by have := M4.out.ge; have := NW.out; omega
    have L4 : Hid (FarI w1 W4 g la2 live) := FarI.only ⟨ownsI_isI VI.out O4.out, fun ad e => ⟨by have := ownsI_ge O4.out ad e; have := ZC.out; omega, by have := ownsI_ge O4.out ad e; have := GC.out; omega⟩⟩ o4
    have F4 : Hid (FarI w1 W4 g a4 offs) := M4.out.oi.only o4
    have Y4 : Hid (FarB w1 W4 g a7 bytes) := M4.out.bi.only o4
    have RR : Hid (W4.heap[w.heap.size + 1]? = some (.cells (icells 0 0 0 none 0 0 0 none 0 0 none 0 0) 35 (0, 0))) := by show _ = _; rw [o4.block _ ng]; exact RR.out
    have LW4 : Hid (Below w1.heap.size w1 W4) := M4.out.low.trans (o4.below M4.out.ge)
    have B4 : Hid (Below w.heap.size w W4) := BW4.out.trans (o4.below (by have := M4.out.ge; have := NW.out; omega))
    have H4 : Hid (W4 = w4.setCell ⟨g, 3, none⟩ (.slice la2 live.length lc2)) := hW4.symm
    have GE : Hid (w1.heap.size ≤ g) := M4.out.ge
    obtain ⟨m0, m1, m2, m3, m4, m5, m6⟩ := icell M4.out.row
    have fg3 := ithawed M4.out.row 3
    clear hW4 o4 ng
    go_upto_region 7 with (fail)
    rw [← H4.out]
    clear m0 m1 m2 m3 m4 m5 m6 fg3
    obtain ⟨c0, c1, c2, c3, c4, c5, c6⟩ := NK.out _ LW4.out
    by_cases ho : offs = []
    · have HO0 : Hid (offs = []) := ho
      have q : ((offs.length : Int) == 0) = true := by rw [ho]; rfl
      have q1 : (offs.length : Int) = 0 := by rw [ho]; rfl
      have q2 : offs.length = 0 := by rw [ho]; rfl
      clear ho
      go_upto_region 8 with (fail)
      clear q q1 q2
      obtain ⟨m0, m1, m2, m3, m4, m5, m6⟩ := icell R4.out
      obtain ⟨r0, r1, r2, r3, r4, r5, r6⟩ := icell RR.out
      have fr0 := ithawed RR.out 0
      have fr1 := ithawed RR.out 1
      have fr2 := ithawed RR.out 2
      have fr3 := ithawed RR.out 3
      have fr4 := ithawed RR.out 4
      have fr5 := ithawed RR.out 5
      have fr6 := ithawed RR.out 6
      have on := lay7_only W4 (w.heap.size + 1) (.int .i64 p) (.int .i64 c) (.int .i64 s) (.slice la2 live.length lc2) (.int .i64 0) (.slice a4 offs.length k4) (.slice a7 bytes.length k7)
      obtain ⟨LW, hLW⟩ : ∃ LW, lay7 W4 (w.heap.size + 1) (.int .i64 p) (.int .i64 c) (.int .i64 s) (.slice la2 live.length lc2) (.int .i64 0) (.slice a4 offs.length k4) (.slice a7 bytes.length k7) = LW := ⟨_, rfl⟩
      have rL : LW.heap[w.heap.size + 1]? = some (.cells (icells p c s la2 live.length lc2 0 a4 offs.length k4 a7 bytes.length k7) 35 (0, 0)) := by rw [← hLW]; exact lay7_row RR.out
      have LV : Hid (LW = (((((((W4.setCell ⟨w.heap.size + 1, 0, none⟩ (.int .i64 p)).setCell ⟨w.heap.size + 1, 1, none⟩ (.int .i64 c)).setCell ⟨w.heap.size + 1, 2, none⟩ (.int .i64 s)).setCell ⟨w.heap.size + 1, 3, none⟩ (.slice la2 live.length lc2)).setCell ⟨w.heap.size + 1, 4, none⟩ (.int .i64 0)).setCell ⟨w.heap.size + 1, 5, none⟩ (.slice a4 offs.length k4)).setCell ⟨w.heap.size + 1, 6, none⟩ (.slice a7 bytes.length k7))) := by show _ = _; rw [← hLW]; rfl
      rw [hLW] at on
      obtain ⟨u0, u1, u2, u3, u4, u5, u6⟩ := icell rL
      have BL : Hid (Below w.heap.size w LW) := (B4.out).trans (on.below (show w.heap.size ≤ w.heap.size + 1 by omega))
      have ON : Hid (Only (w.heap.size + 1) W4 LW) := on
      clear on hLW rL
      go_wp2
      rw [← LV.out]
      refine bodyPost_ret (v := .tuple #[.agg #[.int .i64 p, .int .i64 c, .int .i64 s, .slice la2 live.length lc2, .int .i64 0, .slice a4 offs.length k4, .slice a7 bytes.length k7], .int .i64 0]) (by simp [results, Tryz.results18, go_sem, u0, u1, u2, u3, u4, u5, u6]) rfl ?_
      unfold MoveN
      rw [show moveG ⟨p, c, s, live, base, offs, bytes⟩ t n = (⟨p, c, s, live, 0, [], bytes⟩, 0) from move_none H.out HA.out HO0.out]
      exact ⟨la2, lc2, a4, k4, a7, k7, by rw [HO0.out], L4.out.low ON.out NW.out, by have := F4.out.low ON.out NW.out; rw [HO0.out] at this; exact this, Y4.out.low ON.out NW.out, M4.out.cap, (fun ad e => Nat.le_trans B1.out.size (L4.out.2 ad e).1), .inr (fun ad e => Nat.le_trans B1.out.size (Y4.out.2 ad e).1), BL.out⟩
    · have HN : Hid (offs ≠ []) := ho
      have q : ((offs.length : Int) == 0) = false := by have := List.length_pos_iff.2 ho; simp; omega
      have q1 : ¬ (offs.length : Int) = 0 := by have := List.length_pos_iff.2 ho; omega
      clear ho
      obtain ⟨RB, hRB⟩ : ∃ R, applyB bytes offs base t n = R := ⟨_, rfl⟩
      have HRB : Hid (applyB bytes offs base t n = RB) := hRB
      obtain ⟨er, her⟩ : ∃ R, applyE bytes offs base t n = R := ⟨_, rfl⟩
      have HER : Hid (applyE bytes offs base t n = er) := her
      clear hRB her
      go_wp2_with fail
      refine (oapply_any ba oa bc oc bytes offs base t n W4 (IB.out.keep LW4.out) HBC.out (IO.out.keep LW4.out) HMO.out HBY.out).mono ?_
      rw [HRB.out, HER.out]
      rintro e w5 ⟨a5, k5, rfl, i5, kc, _, hn5, b5⟩
      have I5 : Hid (IsB w5 a5 RB) := i5.isB
      have GA5 : Hid (RB = [] ∨ ∀ ad, a5 = some ad → w.heap.size ≤ ad.block) := by
        have q1 := B4.out.size
        obtain ⟨_, q2 | ⟨g', q2, q3, _⟩⟩ := i5
        · exact .inl q2
        · refine .inr fun ad e => ?_
          rw [q2] at e
          cases e
          show w.heap.size ≤ g'
          omega
      have KC : Hid (RB.length ≤ k5) := kc
      have BW5 : Hid (Below w.heap.size w w5) := B4.out.trans (b5.mono B4.out.size)
      have L5 : Hid (FarI w1 w5 g la2 live) := L4.out.keep b5
      have F5 : Hid (FarI w1 w5 g a4 offs) := F4.out.keep b5
      have R5 : Hid (w5.heap[g]? = some (.cells (icells p c s la2 live.length lc2 0 a4 offs.length k4 a7 bytes.length k7) 35 (0, 0))) := by show _ = _; rw [b5.block _ (row_lt R4.out)]; exact R4.out
      have RR : Hid (w5.heap[w.heap.size + 1]? = some (.cells (icells 0 0 0 none 0 0 0 none 0 0 none 0 0) 35 (0, 0))) := by show _ = _; rw [b5.block _ (row_lt RR.out)]; exact RR.out
      clear i5 kc b5 c0 c1 c2 c3 c4 c5 c6
      by_cases h0 : er = 0
      · subst h0
        obtain ⟨m0, m1, m2, m3, m4, m5, m6⟩ := icell R5.out
        have fg4 := ithawed R5.out 4
        have fg6 := ithawed R5.out 6
        have HM : Hid (moveG ⟨p, c, s, live, base, offs, bytes⟩ t n = (⟨p, c, s, live, t, offs, RB⟩, 0)) := by show _ = _; rw [move_ok H.out HA.out HN.out (by show _ = _; rw [HER.out])]; show (Im.mk p c s live t offs (applyB bytes offs base t n), (0 : Int)) = _; rw [HRB.out]
        obtain ⟨W6, hW6⟩ : ∃ W6, (w5.setCell ⟨g, 4, none⟩ (.int .i64 t)).setCell ⟨g, 6, none⟩ (.slice a5 RB.length k5) = W6 := ⟨_, rfl⟩
        have o6 : Only g w5 W6 := by rw [← hW6]; exact (Only.set g 4 _ w5).trans (Only.set g 6 _ _)
        have R6 : Hid (W6.heap[g]? = some (.cells (icells p c s la2 live.length lc2 t a4 offs.length k4 a5 RB.length k5) 35 (0, 0))) := by show _ = _; rw [← hW6]; exact row_set46 R5.out
        have ng : w.heap.size + 1 ≠ g := by have := GE.out; have := NW.out; omega
        have RR : Hid (W6.heap[w.heap.size + 1]? = some (.cells (icells 0 0 0 none 0 0 0 none 0 0 none 0 0) 35 (0, 0))) := by show _ = _; rw [o6.block _ ng]; exact RR.out
        have I6 : Hid (IsB W6 a5 RB) := isB_only I5.out R5.out o6
        have L6 : Hid (FarI w1 W6 g la2 live) := L5.out.only o6
        have O6 : Hid (FarI w1 W6 g a4 offs) := F5.out.only o6
        have B6 : Hid (Below w.heap.size w W6) := BW5.out.trans (o6.below (by have := GE.out; have := NW.out; omega))
        have H6 : Hid (W6 = (w5.setCell ⟨g, 4, none⟩ (.int .i64 t)).setCell ⟨g, 6, none⟩ (.slice a5 RB.length k5)) := hW6.symm
        clear hW6 o6
        go_upto_region 13 with (fail)
        rw [← H6.out]
        clear m0 m1 m2 m3 m4 m5 m6 fg4 fg6
        obtain ⟨m0, m1, m2, m3, m4, m5, m6⟩ := icell R6.out
        obtain ⟨r0, r1, r2, r3, r4, r5, r6⟩ := icell RR.out
        have fr0 := ithawed RR.out 0
        have fr1 := ithawed RR.out 1
        have fr2 := ithawed RR.out 2
        have fr3 := ithawed RR.out 3
        have fr4 := ithawed RR.out 4
        have fr5 := ithawed RR.out 5
        have fr6 := ithawed RR.out 6
        have on := lay7_only W6 (w.heap.size + 1) (.int .i64 p) (.int .i64 c) (.int .i64 s) (.slice la2 live.length lc2) (.int .i64 t) (.slice a4 offs.length k4) (.slice a5 RB.length k5)
        obtain ⟨LW, hLW⟩ : ∃ LW, lay7 W6 (w.heap.size + 1) (.int .i64 p) (.int .i64 c) (.int .i64 s) (.slice la2 live.length lc2) (.int .i64 t) (.slice a4 offs.length k4) (.slice a5 RB.length k5) = LW := ⟨_, rfl⟩
        have rL : LW.heap[w.heap.size + 1]? = some (.cells (icells p c s la2 live.length lc2 t a4 offs.length k4 a5 RB.length k5) 35 (0, 0)) := by rw [← hLW]; exact lay7_row RR.out
        have LV : Hid (LW = (((((((W6.setCell ⟨w.heap.size + 1, 0, none⟩ (.int .i64 p)).setCell ⟨w.heap.size + 1, 1, none⟩ (.int .i64 c)).setCell ⟨w.heap.size + 1, 2, none⟩ (.int .i64 s)).setCell ⟨w.heap.size + 1, 3, none⟩ (.slice la2 live.length lc2)).setCell ⟨w.heap.size + 1, 4, none⟩ (.int .i64 t)).setCell ⟨w.heap.size + 1, 5, none⟩ (.slice a4 offs.length k4)).setCell ⟨w.heap.size + 1, 6, none⟩ (.slice a5 RB.length k5))) := by show _ = _; rw [← hLW]; rfl
        rw [hLW] at on
        obtain ⟨u0, u1, u2, u3, u4, u5, u6⟩ := icell rL
        have BL : Hid (Below w.heap.size w LW) := (B6.out).trans (on.below (show w.heap.size ≤ w.heap.size + 1 by omega))
        have ON : Hid (Only (w.heap.size + 1) W6 LW) := on
        clear on hLW rL
        go_wp2
        rw [← LV.out]
        refine bodyPost_ret (v := .tuple #[.agg #[.int .i64 p, .int .i64 c, .int .i64 s, .slice la2 live.length lc2, .int .i64 t, .slice a4 offs.length k4, .slice a5 RB.length k5], .int .i64 0]) (by simp [results, Tryz.results18, go_sem, u0, u1, u2, u3, u4, u5, u6]) rfl ?_
        unfold MoveN
        rw [HM.out]
        exact ⟨la2, lc2, a4, k4, a5, k5, rfl, L6.out.low ON.out NW.out, O6.out.low ON.out NW.out, isB_only I6.out RR.out ON.out, KC.out, (fun ad e => Nat.le_trans B1.out.size (L6.out.2 ad e).1), GA5.out, BL.out⟩
      · have hne : (er != 0) = true := bne_iff_ne.2 h0
        have H0 : Hid (er ≠ 0) := h0
        obtain ⟨r0, r1, r2, r3, r4, r5, r6⟩ := icell RR.out
        have fr0 := ithawed RR.out 0
        have fr1 := ithawed RR.out 1
        have fr2 := ithawed RR.out 2
        have fr3 := ithawed RR.out 3
        have fr4 := ithawed RR.out 4
        have fr5 := ithawed RR.out 5
        have fr6 := ithawed RR.out 6
        have on := lay7_only w5 (w.heap.size + 1) (.int .i64 0) (.int .i64 0) (.int .i64 0) (.slice none 0 0) (.int .i64 0) (.slice none 0 0) (.slice none 0 0)
        obtain ⟨LW, hLW⟩ : ∃ LW, lay7 w5 (w.heap.size + 1) (.int .i64 0) (.int .i64 0) (.int .i64 0) (.slice none 0 0) (.int .i64 0) (.slice none 0 0) (.slice none 0 0) = LW := ⟨_, rfl⟩
        have rL : LW.heap[w.heap.size + 1]? = some (.cells (icells 0 0 0 none 0 0 0 none 0 0 none 0 0) 35 (0, 0)) := by rw [← hLW]; exact lay7_row RR.out
        have LV : Hid (LW = (((((((w5.setCell ⟨w.heap.size + 1, 0, none⟩ (.int .i64 0)).setCell ⟨w.heap.size + 1, 1, none⟩ (.int .i64 0)).setCell ⟨w.heap.size + 1, 2, none⟩ (.int .i64 0)).setCell ⟨w.heap.size + 1, 3, none⟩ (.slice none 0 0)).setCell ⟨w.heap.size + 1, 4, none⟩ (.int .i64 0)).setCell ⟨w.heap.size + 1, 5, none⟩ (.slice none 0 0)).setCell ⟨w.heap.size + 1, 6, none⟩ (.slice none 0 0))) := by show _ = _; rw [← hLW]; rfl
        rw [hLW] at on
        obtain ⟨u0, u1, u2, u3, u4, u5, u6⟩ := icell rL
        have BL : Hid (Below w.heap.size w LW) := (BW5.out).trans (on.below (show w.heap.size ≤ w.heap.size + 1 by omega))
        have ON : Hid (Only (w.heap.size + 1) w5 LW) := on
        clear on hLW rL
        go_wp2
        rw [← LV.out]
        refine bodyPost_ret (v := .tuple #[.agg #[.int .i64 0, .int .i64 0, .int .i64 0, .slice none 0 0, .int .i64 0, .slice none 0 0, .slice none 0 0], .int .i64 er]) (by simp [results, Tryz.results18, go_sem, u0, u1, u2, u3, u4, u5, u6]) rfl ?_
        refine movedN_no (x := er) ?_ ⟨rfl, BL.out⟩
        rw [move_addr H.out HA.out HN.out (by show ¬ _; rw [HER.out]; exact H0.out)]; show (noIm, applyE bytes offs base t n) = _; rw [HER.out]
theorem imove_anyN (p c s base : Int) (la oa ba : Option Addr) (lc oc bc : Nat) (live offs bytes : List Int) (t n : Int) (w : World)
    (hL : IsI w la live) (hO : IsI w oa offs) (hB : IsB w ba bytes) (hlv : live.length ≤ 17592186044416) (hof : offs.length ≤ 17592186044416) (hby : bytes.length ≤ 140737488355328) (hbc : bytes.length ≤ bc) (hT : Tabs w) (hp : i64' p) :
    Calls Tryz.prog 18 #[.agg #[.int .i64 p, .int .i64 c, .int .i64 s, .slice la live.length lc, .int .i64 base, .slice oa offs.length oc, .slice ba bytes.length bc], .int .i64 t, .int .i64 n] w (MoveN w ⟨p, c, s, live, base, offs, bytes⟩ t n) := by
  have q1 : live.length ≤ maxLen := by unfold maxLen; omega
  have q2 : offs.length ≤ maxLen := by unfold maxLen; omega
  have q3 : bytes.length ≤ maxLen := by unfold maxLen; omega
  cases hR : rightG ⟨p, c, s, live, base, offs, bytes⟩
  · exact (imove_form p c s base la oa ba lc oc bc live offs bytes t n w hR hL hO q1 q2 q3 hT hp).mono fun e w' h => movedN_no (move_form hR) h
  · by_cases hA : goesA t n
    · exact imove_good p c s base la oa ba lc oc bc live offs bytes t n w hR hL hO q1 q2 q3 hB hlv hof hby hbc hA hT hp
    · exact (imove_arg p c s base la oa ba lc oc bc live offs bytes t n w hR hL hO q1 q2 q3 hT hp hA).mono fun e w' h => movedN_no (move_arg hR hA) h
end Go.Proofs.YtbfamjnnlcopiaaGreatDoor
