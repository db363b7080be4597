/- Layer 17: an image of the law's, in new memory: theirs. -/
import Derived.Test.YtbfamjnnlcopiaaDoorIgQ
import Derived.Test.YtbfamjnnlcopiaaDoorIgI
import Derived.Test.YtbfamjnnlcopiaaDoorGsG
import Derived.Deep.RegionHeld3
namespace Go.Proofs.YtbfamjnnlcopiaaDoor
open Go.RowKit
set_option linter.unusedVariables false
set_option maxRecDepth 4000

section
variable {Q : Exit → Act → World → Prop} {ops : Array Oper} {md : Region.Mode}
/-- A condition may be strengthened under way. -/
theorem wpAnyH_strong {S1 S2 : World → Prop} (h : ∀ w, S2 w → S1 w) : ∀ (fuel : Nat) (listed : Array Bool) (a : Act) (w : World), wpAnyH Tryd.prog md ops Q S2 fuel listed a w → wpAnyH Tryd.prog md ops Q S1 fuel listed a w
  | 0, _, _, _, q => q
  | fuel + 1, _, _, _, q => ⟨q.1, fun i hi => wpOp_mono (fun a' w' h' => ⟨h _ h'.1, wpAnyH_strong h fuel _ a' w' h'.2⟩) (q.2 i hi)⟩
end
theorem told_one {w : World} {B : Nat} {a' : Option Addr} {c' : Nat} {p c s : Int} {live : List Int} (h : Told w B (.slice a' 1 c') [⟨p, c, s, live⟩]) :
    ∃ gA la2 lc2, a' = some ⟨gA, 0, none⟩ ∧ w.cell? ⟨gA, 0, none⟩ = some (.int .i64 p) ∧ w.cell? ⟨gA, 1, none⟩ = some (.int .i64 c) ∧ w.cell? ⟨gA, 2, none⟩ = some (.int .i64 s) ∧ w.cell? ⟨gA, 3, none⟩ = some (.slice la2 live.length lc2) ∧ OwnsI w B la2 live lc2 ∧ B ≤ gA ∧ gA < w.heap.size ∧ (∀ ad, la2 = some ad → B ≤ ad.block ∧ ad.block < w.heap.size) := by
  obtain ⟨rs, h1, h2, h3⟩ := h
  rcases rs with _ | ⟨r, _ | ⟨r', rs⟩⟩
  · cases h1
  · simp at h1
    obtain ⟨⟨p', c', s', l'⟩, ra, rk⟩ := r
    simp only [Td.mk.injEq] at h1
    obtain ⟨rfl, rfl, rfl, rfl⟩ := h1
    have o := h3 _ (List.mem_cons_self ..)
    have h2' := h2
    obtain ⟨_, ⟨_, q⟩ | ⟨g, cap, cur, e, hg, hr, _, _, _, _⟩⟩ := h2'
    · cases q
    · have e' : a' = some ⟨g, 0, none⟩ := by injection e
      subst e'
      have cl := World.ownsRow.cellAt h2
      have k0 := cl 0 (by decide)
      have k1 := cl 1 (by decide)
      have k2 := cl 2 (by decide)
      have k3 := cl 3 (by decide)
      exact ⟨g, ra, rk, rfl, k0, k1, k2, k3, o, hg, (Array.getElem?_eq_some_iff.1 hr).1, fun ad e => ⟨(o.parts.2.2.2 ad e).1, (o.parts.2.2.2 ad e).2.1⟩⟩
  · simp at h1
theorem ownsB_ge {w : World} {base cap : Nat} {a : Option Addr} {l : List Int} (h : OwnsB w base a l cap) : ∀ ad, a = some ad → base ≤ ad.block := by
  intro ad e
  obtain ⟨q1, ⟨q2, _⟩ | ⟨g', c', cur, r1, r2, r3, r4⟩⟩ := h
  · injection q2 with q2; rw [q2] at e; cases e
  · injection r1 with r1
    rw [r1] at e
    cases e
    exact r2
/-- What theirs leaves behind. -/
def TheirsP (w : World) (p c s base : Int) (live offs bytes : List Int) (e : Ending) (w' : World) : Prop :=
  ∃ la lc oa oc gb bc, e = .returned (.agg #[.int .i64 p, .int .i64 c, .int .i64 s, .slice la live.length lc, .int .i64 base, .slice oa offs.length oc, .slice (some ⟨gb, 0, none⟩) bytes.length bc]) ∧ IsI w' la live ∧ (∀ ad, la = some ad → w.heap.size ≤ ad.block) ∧ OwnsI w' w.heap.size oa offs oc ∧ OwnsB w' w.heap.size (some ⟨gb, 0, none⟩) bytes bc ∧ Below w.heap.size w w'
theorem rdT_one {w : World} {g : Nat} {p c s : Int} {la : Option Addr} {lc : Nat} {live : List Int} (h0 : w.cell? ⟨g, 0, none⟩ = some (.int .i64 p)) (h1 : w.cell? ⟨g, 1, none⟩ = some (.int .i64 c)) (h2 : w.cell? ⟨g, 2, none⟩ = some (.int .i64 s)) (h3 : w.cell? ⟨g, 3, none⟩ = some (.slice la live.length lc)) (hI : IsI w la live) (hm : live.length ≤ maxLen) : RdT w (some ⟨g, 0, none⟩) [⟨p, c, s, live⟩] := fun i hi => by
  have hi : i < 1 := hi
  obtain rfl : i = 0 := by omega
  exact ⟨g, 0, la, lc, rfl, h0, h1, h2, h3, hI, hm⟩

/-! The operations of law.go:31, whose order the model draws. -/
def igt0 : Oper := { dst := some 3, op := Op.fieldAddr 27 (Operand.tmp 1) 0, type := 0, pos := "law.go:31", after := #[], guard := none }
def igt1 : Oper := { dst := some 4, op := Op.load 24 (Operand.tmp 3), type := 24, pos := "law.go:31", after := #[{ on := 0, ground := Ground.data }], guard := none }
def igt2 : Oper := { dst := some 5, op := Op.buildSlice 50 1 #[(0, Operand.tmp 4)], type := 50, pos := "law.go:31", after := #[{ on := 1, ground := Ground.data }], guard := none }
def igt3 : Oper := { dst := some 6, op := Op.call { callee := Callee.value (Operand.func 20), args := #[Operand.tmp 5], argTypes := #[50] }, type := 50, pos := "law.go:31", after := #[{ on := 2, ground := Ground.data }], guard := none }
def igt4 : Oper := { dst := some 7, op := Op.indexAddr 50 (Operand.tmp 6) (Operand.const (Value.int IntKind.i64 0)), type := 0, pos := "law.go:31", after := #[{ on := 3, ground := Ground.data }], guard := none }
def igt5 : Oper := { dst := some 8, op := Op.load 24 (Operand.tmp 7), type := 24, pos := "law.go:31", after := #[{ on := 4, ground := Ground.data }], guard := none }
def igt6 : Oper := { dst := some 9, op := Op.fieldAddr 27 (Operand.tmp 1) 1, type := 0, pos := "law.go:31", after := #[], guard := none }
def igt7 : Oper := { dst := some 10, op := Op.load 3 (Operand.tmp 9), type := 3, pos := "law.go:31", after := #[{ on := 6, ground := Ground.data }], guard := none }
def igt8 : Oper := { dst := some 11, op := Op.buildSlice 22 0 #[], type := 22, pos := "law.go:31", after := #[], guard := none }
def igt9 : Oper := { dst := some 12, op := Op.fieldAddr 27 (Operand.tmp 1) 2, type := 0, pos := "law.go:31", after := #[], guard := none }
def igt10 : Oper := { dst := some 13, op := Op.load 22 (Operand.tmp 12), type := 22, pos := "law.go:31", after := #[{ on := 9, ground := Ground.data }], guard := none }
def igt11 : Oper := { dst := some 14, op := Op.call { callee := Callee.builtin Builtin.append, args := #[Operand.tmp 11, Operand.tmp 13], argTypes := #[22, 22] }, type := 22, pos := "law.go:31", after := #[{ on := 8, ground := Ground.data }, { on := 10, ground := Ground.data }, { on := 3, ground := Ground.chain }], guard := none }
def igt12 : Oper := { dst := some 15, op := Op.fieldAddr 27 (Operand.tmp 1) 3, type := 0, pos := "law.go:31", after := #[], guard := none }
def igt13 : Oper := { dst := some 16, op := Op.load 25 (Operand.tmp 15), type := 25, pos := "law.go:31", after := #[{ on := 12, ground := Ground.data }], guard := none }
def igt14 : Oper := { dst := some 17, op := Op.call { callee := Callee.value (Operand.func 21), args := #[Operand.tmp 16], argTypes := #[25] }, type := 25, pos := "law.go:31", after := #[{ on := 13, ground := Ground.data }, { on := 11, ground := Ground.chain }], guard := none }
def igt15 : Oper := { dst := some 18, op := Op.build 29 #[(0, Operand.tmp 8), (1, Operand.tmp 10), (2, Operand.tmp 14), (3, Operand.tmp 17)], type := 29, pos := "law.go:31", after := #[{ on := 5, ground := Ground.data }, { on := 7, ground := Ground.data }, { on := 11, ground := Ground.data }, { on := 14, ground := Ground.data }], guard := none }
def igt16 : Oper := { dst := none, op := Op.store 29 (Operand.tmp 2) (Operand.tmp 18), type := 0, pos := "law.go:31", after := #[{ on := 15, ground := Ground.data }, { on := 14, ground := Ground.chain }, { on := 0, ground := Ground.phase }, { on := 1, ground := Ground.phase }, { on := 2, ground := Ground.phase }, { on := 3, ground := Ground.phase }, { on := 4, ground := Ground.phase }, { on := 5, ground := Ground.phase }, { on := 6, ground := Ground.phase }, { on := 7, ground := Ground.phase }, { on := 8, ground := Ground.phase }, { on := 9, ground := Ground.phase }, { on := 10, ground := Ground.phase }, { on := 11, ground := Ground.phase }, { on := 12, ground := Ground.phase }, { on := 13, ground := Ground.phase }, { on := 14, ground := Ground.phase }, { on := 15, ground := Ground.phase }], guard := none }

set_option maxRecDepth 20000 in
set_option maxHeartbeats 8000000 in
theorem theirs_any (p c s base : Int) (la oa ba : Option Addr) (lc oc bc : Nat) (live offs bytes : List Int) (w : World) (hL : IsI w la live) (hO : IsI w oa offs) (hB : IsB w ba bytes) (hlv : live.length ≤ 17592186044416) (hof : offs.length ≤ 17592186044416) (hby : bytes.length ≤ 140737488355328) :
    Calls Tryd.prog 7 #[.agg #[.int .i64 p, .int .i64 c, .int .i64 s, .slice la live.length lc, .int .i64 base, .slice oa offs.length oc, .slice ba bytes.length bc]] w (TheirsP w p c s base live offs bytes) := by
  obtain ⟨D, hD, zD, rD, bD⟩ := ibox 27 w p c s la live.length lc base oa offs.length oc ba bytes.length bc
  have HD : Hid (w.alloc (.cells #[.int .i64 p, .int .i64 c, .int .i64 s, .slice la live.length lc, .int .i64 base, .slice oa offs.length oc, .slice ba bytes.length bc] 27) = D) := hD
  obtain ⟨E, hE, zE, rE, bE⟩ := ibox 29 D 0 0 0 none 0 0 0 none 0 0 none 0 0
  have HE : Hid (D.alloc (.cells #[.int .i64 0, .int .i64 0, .int .i64 0, .slice none 0 0, .int .i64 0, .slice none 0 0, .slice none 0 0] 29) = E) := hE
  rw [zD] at rE zE
  have RE : Hid (E.heap[w.heap.size + 1]? = some (.cells (icells 0 0 0 none 0 0 0 none 0 0 none 0 0) 29 (0, 0))) := rE
  have ZE : Hid (E.heap.size = w.heap.size + 1 + 1) := zE
  have BWE : Hid (Below w.heap.size w E) := bD.trans (bE.mono (by omega))
  have CE : Hid (Ic E w.heap.size p c s la live.length lc base oa offs.length oc ba bytes.length bc) := (icell rD).keep bE
  have IL : Hid (IsI E la live) := hL.keep BWE.out
  have IO : Hid (IsI E oa offs) := hO.keep BWE.out
  have IB : Hid (IsB E ba bytes) := hB.keep BWE.out
  have VI : Hid (∀ x ∈ live, -9223372036854775808 ≤ x ∧ x ≤ 9223372036854775807) := hL.1
  have LM : Hid (live.length ≤ maxLen) := by show _ ≤ _; unfold maxLen; omega
  have NK : Hid (∀ wz, Below E.heap.size E wz → wz.cell? ⟨w.heap.size, 0, none⟩ = some (.int .i64 p) ∧ wz.cell? ⟨w.heap.size, 1, none⟩ = some (.int .i64 c) ∧ wz.cell? ⟨w.heap.size, 2, none⟩ = some (.int .i64 s) ∧ wz.cell? ⟨w.heap.size, 3, none⟩ = some (.slice la live.length lc) ∧ wz.cell? ⟨w.heap.size, 4, none⟩ = some (.int .i64 base) ∧ wz.cell? ⟨w.heap.size, 5, none⟩ = some (.slice oa offs.length oc) ∧ wz.cell? ⟨w.heap.size, 6, none⟩ = some (.slice ba bytes.length bc)) := fun wz b => by
    obtain ⟨j0, j1, j2, j3, j4, j5, j6⟩ := CE.out.keep b
    exact ⟨j0, j1, j2, j3, j4, j5, j6⟩
  have BE0 : Hid (Below E.heap.size E E.drew) := Below.toDrew (Below.refl _ _)
  -- the worlds of the three orders
  obtain ⟨Wa0, hWa0, zWa0, rWa0, bWa0⟩ := dbox E p c s la live.length lc
  obtain ⟨Wa, hWa⟩ : ∃ Wa, Wa0.drew = Wa := ⟨_, rfl⟩
  have EWa : Hid ((E.alloc (.cells #[.int .i64 p, .int .i64 c, .int .i64 s, .slice la live.length lc] 24)).drew = Wa) := by show _ = _; rw [hWa0]; exact hWa
  have zWa : Wa.heap.size = E.heap.size + 1 := by rw [← hWa]; exact zWa0
  have rWa : Wa.heap[E.heap.size]? = some (.cells (dcells p c s la live.length lc) 24 (0, 0)) := by rw [← hWa]; exact rWa0
  have BWa : Hid (Below E.heap.size E Wa) := by show Below _ _ _; rw [← hWa]; exact Below.toDrew bWa0
  have RDWa : Hid (RdT Wa (some ⟨E.heap.size, 0, none⟩) [⟨p, c, s, live⟩]) := rdT_one (dcell0 rWa) (dcell1 rWa) (dcell2 rWa) (dcell3 rWa) (IL.out.keep BWa.out) LM.out
  have ZWa : Hid (Wa.heap.size = E.heap.size + 1) := zWa
  obtain ⟨Wb, hWb⟩ : ∃ Wb, Wa.alloc (.cells #[] 3) = Wb := ⟨_, rfl⟩
  have EWb : Hid (Wa.alloc (.cells #[] 3) = Wb) := hWb
  have bWb : Below Wa.heap.size Wa Wb := by rw [← hWb]; exact (Below.refl _ _).alloc (Nat.le_refl _) _
  have BWb : Hid (Below E.heap.size E Wb) := BWa.out.trans (bWb.mono (by have := ZWa.out; omega))
  have RDWb : Hid (RdT Wb (some ⟨E.heap.size, 0, none⟩) [⟨p, c, s, live⟩]) := RDWa.out.keep bWb
  have OWb : Hid (OwnsI Wb E.heap.size (some ⟨Wa.heap.size, 0, none⟩) [] 0) := by show OwnsI _ _ _ _ _; rw [← hWb]; exact ownsI_made Wa E.heap.size (by have := ZWa.out; omega)
  have ZWb : Hid (Wb.heap.size = Wa.heap.size + 1) := by show _ = _; rw [← hWb]; simp
  obtain ⟨Wc, hWc⟩ : ∃ Wc, (E.alloc (.cells #[] 3)).drew = Wc := ⟨_, rfl⟩
  have EWc : Hid ((E.alloc (.cells #[] 3)).drew = Wc) := hWc
  have BWc : Hid (Below E.heap.size E Wc) := by show Below _ _ _; rw [← hWc]; exact Below.toDrew ((Below.refl _ _).alloc (Nat.le_refl _) _)
  have OWc : Hid (OwnsI Wc E.heap.size (some ⟨E.heap.size, 0, none⟩) [] 0) := by show OwnsI _ _ _ _ _; rw [← hWc]; exact (ownsI_made E E.heap.size (Nat.le_refl _)).drew
  have ZWc : Hid (Wc.heap.size = E.heap.size + 1) := by show _ = _; rw [← hWc]; simp
  obtain ⟨Wd, hWd, zWd, rWd, bWd⟩ := dbox Wc p c s la live.length lc
  have EWd : Hid (Wc.alloc (.cells #[.int .i64 p, .int .i64 c, .int .i64 s, .slice la live.length lc] 24) = Wd) := hWd
  have BWd : Hid (Below E.heap.size E Wd) := BWc.out.trans (bWd.mono (by have := ZWc.out; omega))
  have RDWd : Hid (RdT Wd (some ⟨Wc.heap.size, 0, none⟩) [⟨p, c, s, live⟩]) := rdT_one (dcell0 rWd) (dcell1 rWd) (dcell2 rWd) (dcell3 rWd) (IL.out.keep BWd.out) LM.out
  have OWd : Hid (OwnsI Wd E.heap.size (some ⟨E.heap.size, 0, none⟩) [] 0) := OWc.out.keep bWd
  have ZWd : Hid (Wd.heap.size = Wc.heap.size + 1) := zWd
  clear hD zD rD bD hE zE rE bE hL hO hB hWa zWa rWa zWa0 rWa0 bWa0 hWa0 hWb bWb hWc hWd zWd rWd bWd
  go_enter Tryd.func7, Tryd.ntmps7
  go_upto_region 1 with (fail)
  rw [HD.out, HE.out]
  refine wp_region_held_drew (S := (fun wz => wz.cell? ⟨w.heap.size, 0, none⟩ = some (.int .i64 p) ∧ wz.cell? ⟨w.heap.size, 1, none⟩ = some (.int .i64 c) ∧ wz.cell? ⟨w.heap.size, 2, none⟩ = some (.int .i64 s) ∧ wz.cell? ⟨w.heap.size, 3, none⟩ = some (.slice la live.length lc) ∧ wz.cell? ⟨w.heap.size, 4, none⟩ = some (.int .i64 base) ∧ wz.cell? ⟨w.heap.size, 5, none⟩ = some (.slice oa offs.length oc) ∧ wz.cell? ⟨w.heap.size, 6, none⟩ = some (.slice ba bytes.length bc))) (by kernel_rfl) (NK.out _ BE0.out) (fun _ => ?_)
  refine wpAnyH_take (i := 0) (oi := igt0) (v := .pointer (some ⟨w.heap.size, 0, none⟩)) rfl (by kernel_rfl) (by kernel_rfl) (by kernel_rfl) (fun _ _ _ h => h) (.inl ⟨rfl, by intro wz hz; obtain ⟨q0, q1, q2, q3, q4, q5, q6⟩ := hz; unfold igt0; go_simp⟩) (NK.out _ BE0.out) ?_
  simp only [igt0, Act.put, List.setIfInBounds_toArray, List.set_cons_succ, List.set_cons_zero]
  refine wpAnyH_take (i := 1) (oi := igt1) (v := .agg #[.int .i64 p, .int .i64 c, .int .i64 s, .slice la live.length lc]) rfl (by kernel_rfl) (by kernel_rfl) (by kernel_rfl) (fun _ _ _ h => h) (.inl ⟨rfl, by intro wz hz; obtain ⟨q0, q1, q2, q3, q4, q5, q6⟩ := hz; unfold igt1; go_simp⟩) (NK.out _ BE0.out) ?_
  simp only [igt1, Act.put, List.setIfInBounds_toArray, List.set_cons_succ, List.set_cons_zero]
  refine wpAnyH_take (i := 6) (oi := igt6) (v := .pointer (some ⟨w.heap.size, 4, none⟩)) rfl (by kernel_rfl) (by kernel_rfl) (by kernel_rfl) (fun _ _ _ h => h) (.inl ⟨rfl, by intro wz hz; obtain ⟨q0, q1, q2, q3, q4, q5, q6⟩ := hz; unfold igt6; go_simp⟩) (NK.out _ BE0.out) ?_
  simp only [igt6, Act.put, List.setIfInBounds_toArray, List.set_cons_succ, List.set_cons_zero]
  refine wpAnyH_take (i := 7) (oi := igt7) (v := .int .i64 base) rfl (by kernel_rfl) (by kernel_rfl) (by kernel_rfl) (fun _ _ _ h => h) (.inl ⟨rfl, by intro wz hz; obtain ⟨q0, q1, q2, q3, q4, q5, q6⟩ := hz; unfold igt7; go_simp⟩) (NK.out _ BE0.out) ?_
  simp only [igt7, Act.put, List.setIfInBounds_toArray, List.set_cons_succ, List.set_cons_zero]
  refine wpAnyH_take (i := 9) (oi := igt9) (v := .pointer (some ⟨w.heap.size, 5, none⟩)) rfl (by kernel_rfl) (by kernel_rfl) (by kernel_rfl) (fun _ _ _ h => h) (.inl ⟨rfl, by intro wz hz; obtain ⟨q0, q1, q2, q3, q4, q5, q6⟩ := hz; unfold igt9; go_simp⟩) (NK.out _ BE0.out) ?_
  simp only [igt9, Act.put, List.setIfInBounds_toArray, List.set_cons_succ, List.set_cons_zero]
  refine wpAnyH_take (i := 10) (oi := igt10) (v := .slice oa offs.length oc) rfl (by kernel_rfl) (by kernel_rfl) (by kernel_rfl) (fun _ _ _ h => h) (.inl ⟨rfl, by intro wz hz; obtain ⟨q0, q1, q2, q3, q4, q5, q6⟩ := hz; unfold igt10; go_simp⟩) (NK.out _ BE0.out) ?_
  simp only [igt10, Act.put, List.setIfInBounds_toArray, List.set_cons_succ, List.set_cons_zero]
  refine wpAnyH_take (i := 12) (oi := igt12) (v := .pointer (some ⟨w.heap.size, 6, none⟩)) rfl (by kernel_rfl) (by kernel_rfl) (by kernel_rfl) (fun _ _ _ h => h) (.inl ⟨rfl, by intro wz hz; obtain ⟨q0, q1, q2, q3, q4, q5, q6⟩ := hz; unfold igt12; go_simp⟩) (NK.out _ BE0.out) ?_
  simp only [igt12, Act.put, List.setIfInBounds_toArray, List.set_cons_succ, List.set_cons_zero]
  refine wpAnyH_take (i := 13) (oi := igt13) (v := .slice ba bytes.length bc) rfl (by kernel_rfl) (by kernel_rfl) (by kernel_rfl) (fun _ _ _ h => h) (.inl ⟨rfl, by intro wz hz; obtain ⟨q0, q1, q2, q3, q4, q5, q6⟩ := hz; unfold igt13; go_simp⟩) (NK.out _ BE0.out) ?_
  simp only [igt13, Act.put, List.setIfInBounds_toArray, List.set_cons_succ, List.set_cons_zero]
  refine wpAnyH_ready (rs := [2, 8]) (by kernel_rfl) (by simp) ?_
  refine AllReadyH.cons (o := igt2) rfl (fun K hK => ?_) (AllReadyH.cons (o := igt8) rfl (fun K hK => ?_) AllReadyH.nil)
  · unfold igt2
    go_simp
    rw [EWa.out]
    refine hK.out _ _ (NK.out _ BWa.out) (fun _ => ?_)
    clear hK K
    try simp only [igt2, Act.put, List.setIfInBounds_toArray, List.set_cons_succ, List.set_cons_zero]
    refine wpAnyH_ready (rs := [3, 8]) (by kernel_rfl) (by simp) ?_
    refine AllReadyH.cons (o := igt3) rfl (fun K hK => ?_) (AllReadyH.cons (o := igt8) rfl (fun K hK => ?_) AllReadyH.nil)
    · unfold igt3
      go_simp
      refine (rcopy_any (some ⟨E.heap.size, 0, none⟩) 1 1 [⟨p, c, s, live⟩] Wa (RDWa.out) rfl (by omega) (fun t ht => by simp at ht; subst ht; exact hlv)).mono ?_
      rintro e w3 ⟨a3, c3, rfl, t3, b3⟩
      obtain ⟨gA, la2, lc2, rfl, j0, j1, j2, j3, ol, gl, glt, ll⟩ := told_one t3
      go_wp2_with fail
      have Bw3 : Hid (Below E.heap.size E w3) := BWa.out.trans (b3.mono BWa.out.size)
      have GA : Hid (Wa.heap.size ≤ gA ∧ gA < w3.heap.size) := ⟨gl, glt⟩
      have Jw3 : Hid (w3.cell? ⟨gA, 0, none⟩ = some (.int .i64 p) ∧ w3.cell? ⟨gA, 1, none⟩ = some (.int .i64 c) ∧ w3.cell? ⟨gA, 2, none⟩ = some (.int .i64 s) ∧ w3.cell? ⟨gA, 3, none⟩ = some (.slice la2 live.length lc2)) := ⟨j0, j1, j2, j3⟩
      have OL : Hid (OwnsI w3 Wa.heap.size la2 live lc2) := ol
      have BC : Hid (Below Wa.heap.size Wa w3) := b3
      have GL : Hid (∀ ad, la2 = some ad → Wa.heap.size ≤ ad.block ∧ ad.block < w3.heap.size) := ll
      refine hK.out _ _ (NK.out _ Bw3.out) (fun _ => ?_)
      clear hK K
      try simp only [igt3, Act.put, List.setIfInBounds_toArray, List.set_cons_succ, List.set_cons_zero]
      refine wpAnyH_strong (S2 := (fun wz => (wz.cell? ⟨w.heap.size, 0, none⟩ = some (.int .i64 p) ∧ wz.cell? ⟨w.heap.size, 1, none⟩ = some (.int .i64 c) ∧ wz.cell? ⟨w.heap.size, 2, none⟩ = some (.int .i64 s) ∧ wz.cell? ⟨w.heap.size, 3, none⟩ = some (.slice la live.length lc) ∧ wz.cell? ⟨w.heap.size, 4, none⟩ = some (.int .i64 base) ∧ wz.cell? ⟨w.heap.size, 5, none⟩ = some (.slice oa offs.length oc) ∧ wz.cell? ⟨w.heap.size, 6, none⟩ = some (.slice ba bytes.length bc)) ∧ (wz.cell? ⟨gA, 0, none⟩ = some (.int .i64 p) ∧ wz.cell? ⟨gA, 1, none⟩ = some (.int .i64 c) ∧ wz.cell? ⟨gA, 2, none⟩ = some (.int .i64 s) ∧ wz.cell? ⟨gA, 3, none⟩ = some (.slice la2 live.length lc2)))) (fun _ q => q.1) _ _ _ _ ?_
      refine wpAnyH_take (i := 4) (oi := igt4) (v := .pointer (some ⟨gA, 0, none⟩)) rfl (by kernel_rfl) (by kernel_rfl) (by kernel_rfl) (fun _ _ _ h => h) (.inl ⟨rfl, by intro wz hz; obtain ⟨⟨q0, q1, q2, q3, q4, q5, q6⟩, ⟨h0, h1, h2, h3⟩⟩ := hz; unfold igt4; go_simp⟩) ⟨NK.out _ Bw3.out, Jw3.out⟩ ?_
      simp only [igt4, Act.put, List.setIfInBounds_toArray, List.set_cons_succ, List.set_cons_zero]
      refine wpAnyH_take (i := 5) (oi := igt5) (v := .agg #[.int .i64 p, .int .i64 c, .int .i64 s, .slice la2 live.length lc2]) rfl (by kernel_rfl) (by kernel_rfl) (by kernel_rfl) (fun _ _ _ h => h) (.inl ⟨rfl, by intro wz hz; obtain ⟨⟨q0, q1, q2, q3, q4, q5, q6⟩, ⟨h0, h1, h2, h3⟩⟩ := hz; unfold igt5; go_simp⟩) ⟨NK.out _ Bw3.out, Jw3.out⟩ ?_
      simp only [igt5, Act.put, List.setIfInBounds_toArray, List.set_cons_succ, List.set_cons_zero]
      clear j0 j1 j2 j3 ol gl glt ll t3 b3
      obtain ⟨We, hWe⟩ : ∃ We, w3.alloc (.cells #[] 3) = We := ⟨_, rfl⟩
      have EWe : Hid (w3.alloc (.cells #[] 3) = We) := hWe
      have bWe : Below w3.heap.size w3 We := by rw [← hWe]; exact (Below.refl _ _).alloc (Nat.le_refl _) _
      have BWe : Hid (Below E.heap.size E We) := Bw3.out.trans (bWe.mono Bw3.out.size)
      have O8 : Hid (OwnsI We E.heap.size (some ⟨w3.heap.size, 0, none⟩) [] 0) := by show OwnsI _ _ _ _ _; rw [← hWe]; exact ownsI_made w3 E.heap.size Bw3.out.size
      have JWe : Hid (We.cell? ⟨gA, 0, none⟩ = some (.int .i64 p) ∧ We.cell? ⟨gA, 1, none⟩ = some (.int .i64 c) ∧ We.cell? ⟨gA, 2, none⟩ = some (.int .i64 s) ∧ We.cell? ⟨gA, 3, none⟩ = some (.slice la2 live.length lc2)) := by
        obtain ⟨j0, j1, j2, j3⟩ := Jw3.out
        exact ⟨bcell bWe j0, bcell bWe j1, bcell bWe j2, bcell bWe j3⟩
      have OLT : Hid (OwnsI We Wa.heap.size la2 live lc2) := OL.out.keep bWe
      have G8 : Hid (E.heap.size ≤ w3.heap.size) := Bw3.out.size
      have NG : Hid (¬ (gA = w3.heap.size)) := by show ¬ _; have := GA.out.2; omega
      have GT : Hid (gA < We.heap.size) := Nat.lt_of_lt_of_le GA.out.2 bWe.size
      have NE : Hid (∀ ad, la2 = some ad → ¬ (ad.block = w3.heap.size)) := fun ad e => by have := (GL.out ad e).2; omega
      have GE : Hid (E.heap.size ≤ gA) := by show _ ≤ _; have := GA.out.1; have := ZWa.out; omega
      have LG : Hid (∀ ad, la2 = some ad → w.heap.size + 1 < ad.block) := fun ad e => by have := (GL.out ad e).1; have := ZWa.out; have := ZE.out; omega
      clear hWe bWe
      refine wpAnyH_ready (rs := [8]) (by kernel_rfl) (by simp) ?_
      refine AllReadyH.cons (o := igt8) rfl (fun K hK => ?_) AllReadyH.nil
      unfold igt8
      go_simp
      rw [EWe.out]
      refine hK.out _ _ ⟨NK.out _ BWe.out, JWe.out⟩ (fun _ => ?_)
      clear hK K
      try simp only [igt8, Act.put, List.setIfInBounds_toArray, List.set_cons_succ, List.set_cons_zero]
      obtain ⟨a11, c11, w11, hrun, o11, tu⟩ := appAll_run E.heap.size We BWe.out.size w3.heap.size O8.out oa offs offs.length oc rfl (IO.out.keep BWe.out) hof
      have B11 : Hid (Below E.heap.size E w11) := BWe.out.trans (tu.below (fun i e => by rw [e]; exact G8.out) BWe.out.size)
      have J11 : Hid (w11.cell? ⟨gA, 0, none⟩ = some (.int .i64 p) ∧ w11.cell? ⟨gA, 1, none⟩ = some (.int .i64 c) ∧ w11.cell? ⟨gA, 2, none⟩ = some (.int .i64 s) ∧ w11.cell? ⟨gA, 3, none⟩ = some (.slice la2 live.length lc2)) := by
        obtain ⟨j0, j1, j2, j3⟩ := JWe.out
        have q : ¬ (gA = w3.heap.size) := NG.out
        exact ⟨by rw [tu.cell q GT.out]; exact j0, by rw [tu.cell q GT.out]; exact j1, by rw [tu.cell q GT.out]; exact j2, by rw [tu.cell q GT.out]; exact j3⟩
      have L11 : Hid (IsI w11 la2 live) := by
        obtain ⟨h1, h2 | ⟨b, off, rfl, h3, h4⟩⟩ := ownsI_isI VI.out OLT.out
        · exact ⟨h1, .inl h2⟩
        · exact ⟨h1, .inr ⟨b, off, rfl, Nat.lt_of_lt_of_le h3 tu.size, fun i hi => by rw [tu.cell (NE.out _ rfl) h3]; exact h4 i hi⟩⟩
      have O11 : Hid (OwnsI w11 E.heap.size a11 offs c11) := o11
      refine wpAnyH_ready (rs := [11]) (by kernel_rfl) (by simp) ?_
      refine AllReadyH.cons (o := igt11) rfl (fun K hK => ?_) AllReadyH.nil
      refine step_app rfl _ _ 22 rfl (.slice (some ⟨w3.heap.size, 0, none⟩) 0 0) (.slice oa offs.length oc) rfl rfl _ _ hrun ?_
      refine hK.out _ _ ⟨NK.out _ B11.out, J11.out⟩ (fun _ => ?_)
      clear hK K
      try simp only [igt11, Act.put, List.setIfInBounds_toArray, List.set_cons_succ, List.set_cons_zero]
      clear hrun o11 tu
      refine wpAnyH_ready (rs := [14]) (by kernel_rfl) (by simp) ?_
      refine AllReadyH.cons (o := igt14) rfl (fun K hK => ?_) AllReadyH.nil
      unfold igt14
      go_simp
      refine (copy_any ba bc bytes.length bytes w11 rfl (IB.out.keep B11.out) hby).mono ?_
      rintro e w14 ⟨g14, c14, rfl, o14, b14⟩
      go_wp2_with fail
      have B14 : Hid (Below E.heap.size E w14) := B11.out.trans (b14.mono B11.out.size)
      have J14 : Hid (w14.cell? ⟨gA, 0, none⟩ = some (.int .i64 p) ∧ w14.cell? ⟨gA, 1, none⟩ = some (.int .i64 c) ∧ w14.cell? ⟨gA, 2, none⟩ = some (.int .i64 s) ∧ w14.cell? ⟨gA, 3, none⟩ = some (.slice la2 live.length lc2)) := by
        obtain ⟨j0, j1, j2, j3⟩ := J11.out
        exact ⟨bcell b14 j0, bcell b14 j1, bcell b14 j2, bcell b14 j3⟩
      have L14 : Hid (IsI w14 la2 live) := L11.out.keep b14
      have O14 : Hid (OwnsI w14 E.heap.size a11 offs c11) := O11.out.keep b14
      have Y14 : Hid (OwnsB w14 E.heap.size (some ⟨g14, 0, none⟩) bytes c14) := OwnsB.mono o14 B11.out.size
      refine hK.out _ _ ⟨NK.out _ B14.out, J14.out⟩ (fun _ => ?_)
      clear hK K
      try simp only [igt14, Act.put, List.setIfInBounds_toArray, List.set_cons_succ, List.set_cons_zero]
      clear o14 b14
      refine wpAnyH_take (i := 15) (oi := igt15) (v := .agg #[.int .i64 p, .int .i64 c, .int .i64 s, .slice la2 live.length lc2, .int .i64 base, .slice a11 offs.length c11, .slice (some ⟨g14, 0, none⟩) bytes.length c14]) rfl (by kernel_rfl) (by kernel_rfl) (by kernel_rfl) (fun _ _ _ h => h) (.inl ⟨rfl, by intro wz hz; obtain ⟨⟨q0, q1, q2, q3, q4, q5, q6⟩, ⟨h0, h1, h2, h3⟩⟩ := hz; unfold igt15; go_simp⟩) ⟨NK.out _ B14.out, J14.out⟩ ?_
      simp only [igt15, Act.put, List.setIfInBounds_toArray, List.set_cons_succ, List.set_cons_zero]
      have rR : w14.heap[w.heap.size + 1]? = some (.cells (icells 0 0 0 none 0 0 0 none 0 0 none 0 0) 29 (0, 0)) := by rw [B14.out.block (w.heap.size + 1) (by have := ZE.out; omega)]; exact RE.out
      obtain ⟨m0, m1, m2, m3, m4, m5, m6⟩ := icell rR
      have f00 := ithawed rR 0
      have f01 := ithawed rR 1
      have f02 := ithawed rR 2
      have f03 := ithawed rR 3
      have f04 := ithawed rR 4
      have f05 := ithawed rR 5
      have f06 := ithawed rR 6
      have rL := lay7_row (p := p) (c := c) (s := s) (la := la2) (ln := live.length) (lc := lc2) (base := base) (oa := a11) (on := offs.length) (oc := c11) (ba := some ⟨g14, 0, none⟩) (bn := bytes.length) (bc := c14) rR
      have onL := lay7_only w14 (w.heap.size + 1) (.int .i64 p) (.int .i64 c) (.int .i64 s) (.slice la2 live.length lc2) (.int .i64 base) (.slice a11 offs.length c11) (.slice (some ⟨g14, 0, none⟩) bytes.length c14)
      have NR : w.heap.size + 1 < E.heap.size := by have := ZE.out; omega
      have JL : Hid ((lay7 w14 (w.heap.size + 1) (.int .i64 p) (.int .i64 c) (.int .i64 s) (.slice la2 live.length lc2) (.int .i64 base) (.slice a11 offs.length c11) (.slice (some ⟨g14, 0, none⟩) bytes.length c14)).cell? ⟨gA, 0, none⟩ = some (.int .i64 p) ∧ (lay7 w14 (w.heap.size + 1) (.int .i64 p) (.int .i64 c) (.int .i64 s) (.slice la2 live.length lc2) (.int .i64 base) (.slice a11 offs.length c11) (.slice (some ⟨g14, 0, none⟩) bytes.length c14)).cell? ⟨gA, 1, none⟩ = some (.int .i64 c) ∧ (lay7 w14 (w.heap.size + 1) (.int .i64 p) (.int .i64 c) (.int .i64 s) (.slice la2 live.length lc2) (.int .i64 base) (.slice a11 offs.length c11) (.slice (some ⟨g14, 0, none⟩) bytes.length c14)).cell? ⟨gA, 2, none⟩ = some (.int .i64 s) ∧ (lay7 w14 (w.heap.size + 1) (.int .i64 p) (.int .i64 c) (.int .i64 s) (.slice la2 live.length lc2) (.int .i64 base) (.slice a11 offs.length c11) (.slice (some ⟨g14, 0, none⟩) bytes.length c14)).cell? ⟨gA, 3, none⟩ = some (.slice la2 live.length lc2)) := by
        obtain ⟨j0, j1, j2, j3⟩ := J14.out
        have q : gA ≠ w.heap.size + 1 := by have := GE.out; omega
        exact ⟨by rw [onL.cell (p := ⟨gA, 0, none⟩) q]; exact j0, by rw [onL.cell (p := ⟨gA, 1, none⟩) q]; exact j1, by rw [onL.cell (p := ⟨gA, 2, none⟩) q]; exact j2, by rw [onL.cell (p := ⟨gA, 3, none⟩) q]; exact j3⟩
      have SL : Hid ((lay7 w14 (w.heap.size + 1) (.int .i64 p) (.int .i64 c) (.int .i64 s) (.slice la2 live.length lc2) (.int .i64 base) (.slice a11 offs.length c11) (.slice (some ⟨g14, 0, none⟩) bytes.length c14)).cell? ⟨w.heap.size, 0, none⟩ = some (.int .i64 p) ∧ (lay7 w14 (w.heap.size + 1) (.int .i64 p) (.int .i64 c) (.int .i64 s) (.slice la2 live.length lc2) (.int .i64 base) (.slice a11 offs.length c11) (.slice (some ⟨g14, 0, none⟩) bytes.length c14)).cell? ⟨w.heap.size, 1, none⟩ = some (.int .i64 c) ∧ (lay7 w14 (w.heap.size + 1) (.int .i64 p) (.int .i64 c) (.int .i64 s) (.slice la2 live.length lc2) (.int .i64 base) (.slice a11 offs.length c11) (.slice (some ⟨g14, 0, none⟩) bytes.length c14)).cell? ⟨w.heap.size, 2, none⟩ = some (.int .i64 s) ∧ (lay7 w14 (w.heap.size + 1) (.int .i64 p) (.int .i64 c) (.int .i64 s) (.slice la2 live.length lc2) (.int .i64 base) (.slice a11 offs.length c11) (.slice (some ⟨g14, 0, none⟩) bytes.length c14)).cell? ⟨w.heap.size, 3, none⟩ = some (.slice la live.length lc) ∧ (lay7 w14 (w.heap.size + 1) (.int .i64 p) (.int .i64 c) (.int .i64 s) (.slice la2 live.length lc2) (.int .i64 base) (.slice a11 offs.length c11) (.slice (some ⟨g14, 0, none⟩) bytes.length c14)).cell? ⟨w.heap.size, 4, none⟩ = some (.int .i64 base) ∧ (lay7 w14 (w.heap.size + 1) (.int .i64 p) (.int .i64 c) (.int .i64 s) (.slice la2 live.length lc2) (.int .i64 base) (.slice a11 offs.length c11) (.slice (some ⟨g14, 0, none⟩) bytes.length c14)).cell? ⟨w.heap.size, 5, none⟩ = some (.slice oa offs.length oc) ∧ (lay7 w14 (w.heap.size + 1) (.int .i64 p) (.int .i64 c) (.int .i64 s) (.slice la2 live.length lc2) (.int .i64 base) (.slice a11 offs.length c11) (.slice (some ⟨g14, 0, none⟩) bytes.length c14)).cell? ⟨w.heap.size, 6, none⟩ = some (.slice ba bytes.length bc)) := by
        obtain ⟨j0, j1, j2, j3, j4, j5, j6⟩ := NK.out _ B14.out
        have q : w.heap.size ≠ w.heap.size + 1 := by omega
        exact ⟨by rw [onL.cell (p := ⟨w.heap.size, 0, none⟩) q]; exact j0, by rw [onL.cell (p := ⟨w.heap.size, 1, none⟩) q]; exact j1, by rw [onL.cell (p := ⟨w.heap.size, 2, none⟩) q]; exact j2, by rw [onL.cell (p := ⟨w.heap.size, 3, none⟩) q]; exact j3, by rw [onL.cell (p := ⟨w.heap.size, 4, none⟩) q]; exact j4, by rw [onL.cell (p := ⟨w.heap.size, 5, none⟩) q]; exact j5, by rw [onL.cell (p := ⟨w.heap.size, 6, none⟩) q]; exact j6⟩
      have bL := (BWE.out.trans (B14.out.mono BWE.out.size)).trans (onL.below (show w.heap.size ≤ w.heap.size + 1 by omega))
      have iL : IsI (lay7 w14 (w.heap.size + 1) (.int .i64 p) (.int .i64 c) (.int .i64 s) (.slice la2 live.length lc2) (.int .i64 base) (.slice a11 offs.length c11) (.slice (some ⟨g14, 0, none⟩) bytes.length c14)) la2 live := L14.out.tgG (Tg.ofOnly onL) (fun ad e => by have := LG.out ad e; omega)
      have iO : OwnsI (lay7 w14 (w.heap.size + 1) (.int .i64 p) (.int .i64 c) (.int .i64 s) (.slice la2 live.length lc2) (.int .i64 base) (.slice a11 offs.length c11) (.slice (some ⟨g14, 0, none⟩) bytes.length c14)) w.heap.size a11 offs c11 := OwnsI.tg (O14.out) (Tg.ofOnly onL) NR |>.mono (by omega)
      have iB : OwnsB (lay7 w14 (w.heap.size + 1) (.int .i64 p) (.int .i64 c) (.int .i64 s) (.slice la2 live.length lc2) (.int .i64 base) (.slice a11 offs.length c11) (.slice (some ⟨g14, 0, none⟩) bytes.length c14)) w.heap.size (some ⟨g14, 0, none⟩) bytes c14 := (ownsB_only Y14.out onL (fun ad e => by have := ownsB_ge Y14.out ad e; omega)).mono (by omega)
      have LV : Hid (lay7 w14 (w.heap.size + 1) (.int .i64 p) (.int .i64 c) (.int .i64 s) (.slice la2 live.length lc2) (.int .i64 base) (.slice a11 offs.length c11) (.slice (some ⟨g14, 0, none⟩) bytes.length c14) = (((((((w14.setCell ⟨w.heap.size + 1, 0, none⟩ (.int .i64 p)).setCell ⟨w.heap.size + 1, 1, none⟩ (.int .i64 c)).setCell ⟨w.heap.size + 1, 2, none⟩ (.int .i64 s)).setCell ⟨w.heap.size + 1, 3, none⟩ (.slice la2 live.length lc2)).setCell ⟨w.heap.size + 1, 4, none⟩ (.int .i64 base)).setCell ⟨w.heap.size + 1, 5, none⟩ (.slice a11 offs.length c11)).setCell ⟨w.heap.size + 1, 6, none⟩ (.slice (some ⟨g14, 0, none⟩) bytes.length c14))) := rfl
      obtain ⟨LW, hLW⟩ : ∃ LW, lay7 w14 (w.heap.size + 1) (.int .i64 p) (.int .i64 c) (.int .i64 s) (.slice la2 live.length lc2) (.int .i64 base) (.slice a11 offs.length c11) (.slice (some ⟨g14, 0, none⟩) bytes.length c14) = LW := ⟨_, rfl⟩
      rw [hLW] at rL bL LV iL iO iB JL SL
      obtain ⟨u0, u1, u2, u3, u4, u5, u6⟩ := icell rL
      have POST : Hid (TheirsP w p c s base live offs bytes (.returned (.agg #[.int .i64 p, .int .i64 c, .int .i64 s, .slice la2 live.length lc2, .int .i64 base, .slice a11 offs.length c11, .slice (some ⟨g14, 0, none⟩) bytes.length c14])) LW) := ⟨la2, lc2, a11, c11, g14, c14, rfl, iL, fun ad e => by have := LG.out ad e; omega, iO, iB, bL⟩
      clear hLW rL bL iL iO iB onL
      refine wpAnyH_ready (rs := [16]) (by kernel_rfl) (by simp) ?_
      refine AllReadyH.cons (o := igt16) rfl (fun K hK => ?_) AllReadyH.nil
      unfold igt16
      go_simp
      rw [← LV.out]
      refine hK.out _ _ ⟨SL.out, JL.out⟩ (fun _ => ?_)
      clear hK K
      try simp only [igt16, Act.put, List.setIfInBounds_toArray, List.set_cons_succ, List.set_cons_zero]
      refine wpAnyH_done (by kernel_rfl) ?_ _
      go_wp2
      refine bodyPost_ret (v := .agg #[.int .i64 p, .int .i64 c, .int .i64 s, .slice la2 live.length lc2, .int .i64 base, .slice a11 offs.length c11, .slice (some ⟨g14, 0, none⟩) bytes.length c14]) (by simp [results, Tryd.results7, go_sem, u0, u1, u2, u3, u4, u5, u6]) rfl POST.out
    · unfold igt8
      go_simp
      rw [EWb.out]
      refine hK.out _ _ (NK.out _ BWb.out) (fun _ => ?_)
      clear hK K
      try simp only [igt8, Act.put, List.setIfInBounds_toArray, List.set_cons_succ, List.set_cons_zero]
      refine wpAnyH_ready (rs := [3]) (by kernel_rfl) (by simp) ?_
      refine AllReadyH.cons (o := igt3) rfl (fun K hK => ?_) AllReadyH.nil
      unfold igt3
      go_simp
      refine (rcopy_any (some ⟨E.heap.size, 0, none⟩) 1 1 [⟨p, c, s, live⟩] Wb (RDWb.out) rfl (by omega) (fun t ht => by simp at ht; subst ht; exact hlv)).mono ?_
      rintro e w3 ⟨a3, c3, rfl, t3, b3⟩
      obtain ⟨gA, la2, lc2, rfl, j0, j1, j2, j3, ol, gl, glt, ll⟩ := told_one t3
      go_wp2_with fail
      have Bw3 : Hid (Below E.heap.size E w3) := BWb.out.trans (b3.mono BWb.out.size)
      have GA : Hid (Wb.heap.size ≤ gA ∧ gA < w3.heap.size) := ⟨gl, glt⟩
      have Jw3 : Hid (w3.cell? ⟨gA, 0, none⟩ = some (.int .i64 p) ∧ w3.cell? ⟨gA, 1, none⟩ = some (.int .i64 c) ∧ w3.cell? ⟨gA, 2, none⟩ = some (.int .i64 s) ∧ w3.cell? ⟨gA, 3, none⟩ = some (.slice la2 live.length lc2)) := ⟨j0, j1, j2, j3⟩
      have OL : Hid (OwnsI w3 Wb.heap.size la2 live lc2) := ol
      have BC : Hid (Below Wb.heap.size Wb w3) := b3
      have GL : Hid (∀ ad, la2 = some ad → Wb.heap.size ≤ ad.block ∧ ad.block < w3.heap.size) := ll
      refine hK.out _ _ (NK.out _ Bw3.out) (fun _ => ?_)
      clear hK K
      try simp only [igt3, Act.put, List.setIfInBounds_toArray, List.set_cons_succ, List.set_cons_zero]
      refine wpAnyH_strong (S2 := (fun wz => (wz.cell? ⟨w.heap.size, 0, none⟩ = some (.int .i64 p) ∧ wz.cell? ⟨w.heap.size, 1, none⟩ = some (.int .i64 c) ∧ wz.cell? ⟨w.heap.size, 2, none⟩ = some (.int .i64 s) ∧ wz.cell? ⟨w.heap.size, 3, none⟩ = some (.slice la live.length lc) ∧ wz.cell? ⟨w.heap.size, 4, none⟩ = some (.int .i64 base) ∧ wz.cell? ⟨w.heap.size, 5, none⟩ = some (.slice oa offs.length oc) ∧ wz.cell? ⟨w.heap.size, 6, none⟩ = some (.slice ba bytes.length bc)) ∧ (wz.cell? ⟨gA, 0, none⟩ = some (.int .i64 p) ∧ wz.cell? ⟨gA, 1, none⟩ = some (.int .i64 c) ∧ wz.cell? ⟨gA, 2, none⟩ = some (.int .i64 s) ∧ wz.cell? ⟨gA, 3, none⟩ = some (.slice la2 live.length lc2)))) (fun _ q => q.1) _ _ _ _ ?_
      refine wpAnyH_take (i := 4) (oi := igt4) (v := .pointer (some ⟨gA, 0, none⟩)) rfl (by kernel_rfl) (by kernel_rfl) (by kernel_rfl) (fun _ _ _ h => h) (.inl ⟨rfl, by intro wz hz; obtain ⟨⟨q0, q1, q2, q3, q4, q5, q6⟩, ⟨h0, h1, h2, h3⟩⟩ := hz; unfold igt4; go_simp⟩) ⟨NK.out _ Bw3.out, Jw3.out⟩ ?_
      simp only [igt4, Act.put, List.setIfInBounds_toArray, List.set_cons_succ, List.set_cons_zero]
      refine wpAnyH_take (i := 5) (oi := igt5) (v := .agg #[.int .i64 p, .int .i64 c, .int .i64 s, .slice la2 live.length lc2]) rfl (by kernel_rfl) (by kernel_rfl) (by kernel_rfl) (fun _ _ _ h => h) (.inl ⟨rfl, by intro wz hz; obtain ⟨⟨q0, q1, q2, q3, q4, q5, q6⟩, ⟨h0, h1, h2, h3⟩⟩ := hz; unfold igt5; go_simp⟩) ⟨NK.out _ Bw3.out, Jw3.out⟩ ?_
      simp only [igt5, Act.put, List.setIfInBounds_toArray, List.set_cons_succ, List.set_cons_zero]
      clear j0 j1 j2 j3 ol gl glt ll t3 b3
      have O8 : Hid (OwnsI w3 E.heap.size (some ⟨Wa.heap.size, 0, none⟩) [] 0) := OWb.out.keep BC.out
      have OLT : Hid (OwnsI w3 Wb.heap.size la2 live lc2) := OL.out
      have G8 : Hid (E.heap.size ≤ Wa.heap.size) := by show _ ≤ _; have := ZWa.out; have := ZWb.out; omega
      have NG : Hid (¬ (gA = Wa.heap.size)) := by show ¬ _; have := GA.out.1; have := ZWa.out; have := ZWb.out; omega
      have GT : Hid (gA < w3.heap.size) := GA.out.2
      have NE : Hid (∀ ad, la2 = some ad → ¬ (ad.block = Wa.heap.size)) := fun ad e => by have := (GL.out ad e).1; have := ZWa.out; have := ZWb.out; omega
      have GE : Hid (E.heap.size ≤ gA) := by show _ ≤ _; have := GA.out.1; have := ZWa.out; have := ZWb.out; omega
      have LG : Hid (∀ ad, la2 = some ad → w.heap.size + 1 < ad.block) := fun ad e => by have := (GL.out ad e).1; have := ZE.out; have := ZWa.out; have := ZWb.out; omega
      obtain ⟨a11, c11, w11, hrun, o11, tu⟩ := appAll_run E.heap.size w3 Bw3.out.size Wa.heap.size O8.out oa offs offs.length oc rfl (IO.out.keep Bw3.out) hof
      have B11 : Hid (Below E.heap.size E w11) := Bw3.out.trans (tu.below (fun i e => by rw [e]; exact G8.out) Bw3.out.size)
      have J11 : Hid (w11.cell? ⟨gA, 0, none⟩ = some (.int .i64 p) ∧ w11.cell? ⟨gA, 1, none⟩ = some (.int .i64 c) ∧ w11.cell? ⟨gA, 2, none⟩ = some (.int .i64 s) ∧ w11.cell? ⟨gA, 3, none⟩ = some (.slice la2 live.length lc2)) := by
        obtain ⟨j0, j1, j2, j3⟩ := Jw3.out
        have q : ¬ (gA = Wa.heap.size) := NG.out
        exact ⟨by rw [tu.cell q GT.out]; exact j0, by rw [tu.cell q GT.out]; exact j1, by rw [tu.cell q GT.out]; exact j2, by rw [tu.cell q GT.out]; exact j3⟩
      have L11 : Hid (IsI w11 la2 live) := by
        obtain ⟨h1, h2 | ⟨b, off, rfl, h3, h4⟩⟩ := ownsI_isI VI.out OLT.out
        · exact ⟨h1, .inl h2⟩
        · exact ⟨h1, .inr ⟨b, off, rfl, Nat.lt_of_lt_of_le h3 tu.size, fun i hi => by rw [tu.cell (NE.out _ rfl) h3]; exact h4 i hi⟩⟩
      have O11 : Hid (OwnsI w11 E.heap.size a11 offs c11) := o11
      refine wpAnyH_ready (rs := [11]) (by kernel_rfl) (by simp) ?_
      refine AllReadyH.cons (o := igt11) rfl (fun K hK => ?_) AllReadyH.nil
      refine step_app rfl _ _ 22 rfl (.slice (some ⟨Wa.heap.size, 0, none⟩) 0 0) (.slice oa offs.length oc) rfl rfl _ _ hrun ?_
      refine hK.out _ _ ⟨NK.out _ B11.out, J11.out⟩ (fun _ => ?_)
      clear hK K
      try simp only [igt11, Act.put, List.setIfInBounds_toArray, List.set_cons_succ, List.set_cons_zero]
      clear hrun o11 tu
      refine wpAnyH_ready (rs := [14]) (by kernel_rfl) (by simp) ?_
      refine AllReadyH.cons (o := igt14) rfl (fun K hK => ?_) AllReadyH.nil
      unfold igt14
      go_simp
      refine (copy_any ba bc bytes.length bytes w11 rfl (IB.out.keep B11.out) hby).mono ?_
      rintro e w14 ⟨g14, c14, rfl, o14, b14⟩
      go_wp2_with fail
      have B14 : Hid (Below E.heap.size E w14) := B11.out.trans (b14.mono B11.out.size)
      have J14 : Hid (w14.cell? ⟨gA, 0, none⟩ = some (.int .i64 p) ∧ w14.cell? ⟨gA, 1, none⟩ = some (.int .i64 c) ∧ w14.cell? ⟨gA, 2, none⟩ = some (.int .i64 s) ∧ w14.cell? ⟨gA, 3, none⟩ = some (.slice la2 live.length lc2)) := by
        obtain ⟨j0, j1, j2, j3⟩ := J11.out
        exact ⟨bcell b14 j0, bcell b14 j1, bcell b14 j2, bcell b14 j3⟩
      have L14 : Hid (IsI w14 la2 live) := L11.out.keep b14
      have O14 : Hid (OwnsI w14 E.heap.size a11 offs c11) := O11.out.keep b14
      have Y14 : Hid (OwnsB w14 E.heap.size (some ⟨g14, 0, none⟩) bytes c14) := OwnsB.mono o14 B11.out.size
      refine hK.out _ _ ⟨NK.out _ B14.out, J14.out⟩ (fun _ => ?_)
      clear hK K
      try simp only [igt14, Act.put, List.setIfInBounds_toArray, List.set_cons_succ, List.set_cons_zero]
      clear o14 b14
      refine wpAnyH_take (i := 15) (oi := igt15) (v := .agg #[.int .i64 p, .int .i64 c, .int .i64 s, .slice la2 live.length lc2, .int .i64 base, .slice a11 offs.length c11, .slice (some ⟨g14, 0, none⟩) bytes.length c14]) rfl (by kernel_rfl) (by kernel_rfl) (by kernel_rfl) (fun _ _ _ h => h) (.inl ⟨rfl, by intro wz hz; obtain ⟨⟨q0, q1, q2, q3, q4, q5, q6⟩, ⟨h0, h1, h2, h3⟩⟩ := hz; unfold igt15; go_simp⟩) ⟨NK.out _ B14.out, J14.out⟩ ?_
      simp only [igt15, Act.put, List.setIfInBounds_toArray, List.set_cons_succ, List.set_cons_zero]
      have rR : w14.heap[w.heap.size + 1]? = some (.cells (icells 0 0 0 none 0 0 0 none 0 0 none 0 0) 29 (0, 0)) := by rw [B14.out.block (w.heap.size + 1) (by have := ZE.out; omega)]; exact RE.out
      obtain ⟨m0, m1, m2, m3, m4, m5, m6⟩ := icell rR
      have f00 := ithawed rR 0
      have f01 := ithawed rR 1
      have f02 := ithawed rR 2
      have f03 := ithawed rR 3
      have f04 := ithawed rR 4
      have f05 := ithawed rR 5
      have f06 := ithawed rR 6
      have rL := lay7_row (p := p) (c := c) (s := s) (la := la2) (ln := live.length) (lc := lc2) (base := base) (oa := a11) (on := offs.length) (oc := c11) (ba := some ⟨g14, 0, none⟩) (bn := bytes.length) (bc := c14) rR
      have onL := lay7_only w14 (w.heap.size + 1) (.int .i64 p) (.int .i64 c) (.int .i64 s) (.slice la2 live.length lc2) (.int .i64 base) (.slice a11 offs.length c11) (.slice (some ⟨g14, 0, none⟩) bytes.length c14)
      have NR : w.heap.size + 1 < E.heap.size := by have := ZE.out; omega
      have JL : Hid ((lay7 w14 (w.heap.size + 1) (.int .i64 p) (.int .i64 c) (.int .i64 s) (.slice la2 live.length lc2) (.int .i64 base) (.slice a11 offs.length c11) (.slice (some ⟨g14, 0, none⟩) bytes.length c14)).cell? ⟨gA, 0, none⟩ = some (.int .i64 p) ∧ (lay7 w14 (w.heap.size + 1) (.int .i64 p) (.int .i64 c) (.int .i64 s) (.slice la2 live.length lc2) (.int .i64 base) (.slice a11 offs.length c11) (.slice (some ⟨g14, 0, none⟩) bytes.length c14)).cell? ⟨gA, 1, none⟩ = some (.int .i64 c) ∧ (lay7 w14 (w.heap.size + 1) (.int .i64 p) (.int .i64 c) (.int .i64 s) (.slice la2 live.length lc2) (.int .i64 base) (.slice a11 offs.length c11) (.slice (some ⟨g14, 0, none⟩) bytes.length c14)).cell? ⟨gA, 2, none⟩ = some (.int .i64 s) ∧ (lay7 w14 (w.heap.size + 1) (.int .i64 p) (.int .i64 c) (.int .i64 s) (.slice la2 live.length lc2) (.int .i64 base) (.slice a11 offs.length c11) (.slice (some ⟨g14, 0, none⟩) bytes.length c14)).cell? ⟨gA, 3, none⟩ = some (.slice la2 live.length lc2)) := by
        obtain ⟨j0, j1, j2, j3⟩ := J14.out
        have q : gA ≠ w.heap.size + 1 := by have := GE.out; omega
        exact ⟨by rw [onL.cell (p := ⟨gA, 0, none⟩) q]; exact j0, by rw [onL.cell (p := ⟨gA, 1, none⟩) q]; exact j1, by rw [onL.cell (p := ⟨gA, 2, none⟩) q]; exact j2, by rw [onL.cell (p := ⟨gA, 3, none⟩) q]; exact j3⟩
      have SL : Hid ((lay7 w14 (w.heap.size + 1) (.int .i64 p) (.int .i64 c) (.int .i64 s) (.slice la2 live.length lc2) (.int .i64 base) (.slice a11 offs.length c11) (.slice (some ⟨g14, 0, none⟩) bytes.length c14)).cell? ⟨w.heap.size, 0, none⟩ = some (.int .i64 p) ∧ (lay7 w14 (w.heap.size + 1) (.int .i64 p) (.int .i64 c) (.int .i64 s) (.slice la2 live.length lc2) (.int .i64 base) (.slice a11 offs.length c11) (.slice (some ⟨g14, 0, none⟩) bytes.length c14)).cell? ⟨w.heap.size, 1, none⟩ = some (.int .i64 c) ∧ (lay7 w14 (w.heap.size + 1) (.int .i64 p) (.int .i64 c) (.int .i64 s) (.slice la2 live.length lc2) (.int .i64 base) (.slice a11 offs.length c11) (.slice (some ⟨g14, 0, none⟩) bytes.length c14)).cell? ⟨w.heap.size, 2, none⟩ = some (.int .i64 s) ∧ (lay7 w14 (w.heap.size + 1) (.int .i64 p) (.int .i64 c) (.int .i64 s) (.slice la2 live.length lc2) (.int .i64 base) (.slice a11 offs.length c11) (.slice (some ⟨g14, 0, none⟩) bytes.length c14)).cell? ⟨w.heap.size, 3, none⟩ = some (.slice la live.length lc) ∧ (lay7 w14 (w.heap.size + 1) (.int .i64 p) (.int .i64 c) (.int .i64 s) (.slice la2 live.length lc2) (.int .i64 base) (.slice a11 offs.length c11) (.slice (some ⟨g14, 0, none⟩) bytes.length c14)).cell? ⟨w.heap.size, 4, none⟩ = some (.int .i64 base) ∧ (lay7 w14 (w.heap.size + 1) (.int .i64 p) (.int .i64 c) (.int .i64 s) (.slice la2 live.length lc2) (.int .i64 base) (.slice a11 offs.length c11) (.slice (some ⟨g14, 0, none⟩) bytes.length c14)).cell? ⟨w.heap.size, 5, none⟩ = some (.slice oa offs.length oc) ∧ (lay7 w14 (w.heap.size + 1) (.int .i64 p) (.int .i64 c) (.int .i64 s) (.slice la2 live.length lc2) (.int .i64 base) (.slice a11 offs.length c11) (.slice (some ⟨g14, 0, none⟩) bytes.length c14)).cell? ⟨w.heap.size, 6, none⟩ = some (.slice ba bytes.length bc)) := by
        obtain ⟨j0, j1, j2, j3, j4, j5, j6⟩ := NK.out _ B14.out
        have q : w.heap.size ≠ w.heap.size + 1 := by omega
        exact ⟨by rw [onL.cell (p := ⟨w.heap.size, 0, none⟩) q]; exact j0, by rw [onL.cell (p := ⟨w.heap.size, 1, none⟩) q]; exact j1, by rw [onL.cell (p := ⟨w.heap.size, 2, none⟩) q]; exact j2, by rw [onL.cell (p := ⟨w.heap.size, 3, none⟩) q]; exact j3, by rw [onL.cell (p := ⟨w.heap.size, 4, none⟩) q]; exact j4, by rw [onL.cell (p := ⟨w.heap.size, 5, none⟩) q]; exact j5, by rw [onL.cell (p := ⟨w.heap.size, 6, none⟩) q]; exact j6⟩
      have bL := (BWE.out.trans (B14.out.mono BWE.out.size)).trans (onL.below (show w.heap.size ≤ w.heap.size + 1 by omega))
      have iL : IsI (lay7 w14 (w.heap.size + 1) (.int .i64 p) (.int .i64 c) (.int .i64 s) (.slice la2 live.length lc2) (.int .i64 base) (.slice a11 offs.length c11) (.slice (some ⟨g14, 0, none⟩) bytes.length c14)) la2 live := L14.out.tgG (Tg.ofOnly onL) (fun ad e => by have := LG.out ad e; omega)
      have iO : OwnsI (lay7 w14 (w.heap.size + 1) (.int .i64 p) (.int .i64 c) (.int .i64 s) (.slice la2 live.length lc2) (.int .i64 base) (.slice a11 offs.length c11) (.slice (some ⟨g14, 0, none⟩) bytes.length c14)) w.heap.size a11 offs c11 := OwnsI.tg (O14.out) (Tg.ofOnly onL) NR |>.mono (by omega)
      have iB : OwnsB (lay7 w14 (w.heap.size + 1) (.int .i64 p) (.int .i64 c) (.int .i64 s) (.slice la2 live.length lc2) (.int .i64 base) (.slice a11 offs.length c11) (.slice (some ⟨g14, 0, none⟩) bytes.length c14)) w.heap.size (some ⟨g14, 0, none⟩) bytes c14 := (ownsB_only Y14.out onL (fun ad e => by have := ownsB_ge Y14.out ad e; omega)).mono (by omega)
      have LV : Hid (lay7 w14 (w.heap.size + 1) (.int .i64 p) (.int .i64 c) (.int .i64 s) (.slice la2 live.length lc2) (.int .i64 base) (.slice a11 offs.length c11) (.slice (some ⟨g14, 0, none⟩) bytes.length c14) = (((((((w14.setCell ⟨w.heap.size + 1, 0, none⟩ (.int .i64 p)).setCell ⟨w.heap.size + 1, 1, none⟩ (.int .i64 c)).setCell ⟨w.heap.size + 1, 2, none⟩ (.int .i64 s)).setCell ⟨w.heap.size + 1, 3, none⟩ (.slice la2 live.length lc2)).setCell ⟨w.heap.size + 1, 4, none⟩ (.int .i64 base)).setCell ⟨w.heap.size + 1, 5, none⟩ (.slice a11 offs.length c11)).setCell ⟨w.heap.size + 1, 6, none⟩ (.slice (some ⟨g14, 0, none⟩) bytes.length c14))) := rfl
      obtain ⟨LW, hLW⟩ : ∃ LW, lay7 w14 (w.heap.size + 1) (.int .i64 p) (.int .i64 c) (.int .i64 s) (.slice la2 live.length lc2) (.int .i64 base) (.slice a11 offs.length c11) (.slice (some ⟨g14, 0, none⟩) bytes.length c14) = LW := ⟨_, rfl⟩
      rw [hLW] at rL bL LV iL iO iB JL SL
      obtain ⟨u0, u1, u2, u3, u4, u5, u6⟩ := icell rL
      have POST : Hid (TheirsP w p c s base live offs bytes (.returned (.agg #[.int .i64 p, .int .i64 c, .int .i64 s, .slice la2 live.length lc2, .int .i64 base, .slice a11 offs.length c11, .slice (some ⟨g14, 0, none⟩) bytes.length c14])) LW) := ⟨la2, lc2, a11, c11, g14, c14, rfl, iL, fun ad e => by have := LG.out ad e; omega, iO, iB, bL⟩
      clear hLW rL bL iL iO iB onL
      refine wpAnyH_ready (rs := [16]) (by kernel_rfl) (by simp) ?_
      refine AllReadyH.cons (o := igt16) rfl (fun K hK => ?_) AllReadyH.nil
      unfold igt16
      go_simp
      rw [← LV.out]
      refine hK.out _ _ ⟨SL.out, JL.out⟩ (fun _ => ?_)
      clear hK K
      try simp only [igt16, Act.put, List.setIfInBounds_toArray, List.set_cons_succ, List.set_cons_zero]
      refine wpAnyH_done (by kernel_rfl) ?_ _
      go_wp2
      refine bodyPost_ret (v := .agg #[.int .i64 p, .int .i64 c, .int .i64 s, .slice la2 live.length lc2, .int .i64 base, .slice a11 offs.length c11, .slice (some ⟨g14, 0, none⟩) bytes.length c14]) (by simp [results, Tryd.results7, go_sem, u0, u1, u2, u3, u4, u5, u6]) rfl POST.out
  · unfold igt8
    go_simp
    rw [EWc.out]
    refine hK.out _ _ (NK.out _ BWc.out) (fun _ => ?_)
    clear hK K
    try simp only [igt8, Act.put, List.setIfInBounds_toArray, List.set_cons_succ, List.set_cons_zero]
    refine wpAnyH_ready (rs := [2]) (by kernel_rfl) (by simp) ?_
    refine AllReadyH.cons (o := igt2) rfl (fun K hK => ?_) AllReadyH.nil
    unfold igt2
    go_simp
    rw [EWd.out]
    refine hK.out _ _ (NK.out _ BWd.out) (fun _ => ?_)
    clear hK K
    try simp only [igt2, Act.put, List.setIfInBounds_toArray, List.set_cons_succ, List.set_cons_zero]
    refine wpAnyH_ready (rs := [3]) (by kernel_rfl) (by simp) ?_
    refine AllReadyH.cons (o := igt3) rfl (fun K hK => ?_) AllReadyH.nil
    unfold igt3
    go_simp
    refine (rcopy_any (some ⟨Wc.heap.size, 0, none⟩) 1 1 [⟨p, c, s, live⟩] Wd (RDWd.out) rfl (by omega) (fun t ht => by simp at ht; subst ht; exact hlv)).mono ?_
    rintro e w3 ⟨a3, c3, rfl, t3, b3⟩
    obtain ⟨gA, la2, lc2, rfl, j0, j1, j2, j3, ol, gl, glt, ll⟩ := told_one t3
    go_wp2_with fail
    have Bw3 : Hid (Below E.heap.size E w3) := BWd.out.trans (b3.mono BWd.out.size)
    have GA : Hid (Wd.heap.size ≤ gA ∧ gA < w3.heap.size) := ⟨gl, glt⟩
    have Jw3 : Hid (w3.cell? ⟨gA, 0, none⟩ = some (.int .i64 p) ∧ w3.cell? ⟨gA, 1, none⟩ = some (.int .i64 c) ∧ w3.cell? ⟨gA, 2, none⟩ = some (.int .i64 s) ∧ w3.cell? ⟨gA, 3, none⟩ = some (.slice la2 live.length lc2)) := ⟨j0, j1, j2, j3⟩
    have OL : Hid (OwnsI w3 Wd.heap.size la2 live lc2) := ol
    have BC : Hid (Below Wd.heap.size Wd w3) := b3
    have GL : Hid (∀ ad, la2 = some ad → Wd.heap.size ≤ ad.block ∧ ad.block < w3.heap.size) := ll
    refine hK.out _ _ (NK.out _ Bw3.out) (fun _ => ?_)
    clear hK K
    try simp only [igt3, Act.put, List.setIfInBounds_toArray, List.set_cons_succ, List.set_cons_zero]
    refine wpAnyH_strong (S2 := (fun wz => (wz.cell? ⟨w.heap.size, 0, none⟩ = some (.int .i64 p) ∧ wz.cell? ⟨w.heap.size, 1, none⟩ = some (.int .i64 c) ∧ wz.cell? ⟨w.heap.size, 2, none⟩ = some (.int .i64 s) ∧ wz.cell? ⟨w.heap.size, 3, none⟩ = some (.slice la live.length lc) ∧ wz.cell? ⟨w.heap.size, 4, none⟩ = some (.int .i64 base) ∧ wz.cell? ⟨w.heap.size, 5, none⟩ = some (.slice oa offs.length oc) ∧ wz.cell? ⟨w.heap.size, 6, none⟩ = some (.slice ba bytes.length bc)) ∧ (wz.cell? ⟨gA, 0, none⟩ = some (.int .i64 p) ∧ wz.cell? ⟨gA, 1, none⟩ = some (.int .i64 c) ∧ wz.cell? ⟨gA, 2, none⟩ = some (.int .i64 s) ∧ wz.cell? ⟨gA, 3, none⟩ = some (.slice la2 live.length lc2)))) (fun _ q => q.1) _ _ _ _ ?_
    refine wpAnyH_take (i := 4) (oi := igt4) (v := .pointer (some ⟨gA, 0, none⟩)) rfl (by kernel_rfl) (by kernel_rfl) (by kernel_rfl) (fun _ _ _ h => h) (.inl ⟨rfl, by intro wz hz; obtain ⟨⟨q0, q1, q2, q3, q4, q5, q6⟩, ⟨h0, h1, h2, h3⟩⟩ := hz; unfold igt4; go_simp⟩) ⟨NK.out _ Bw3.out, Jw3.out⟩ ?_
    simp only [igt4, Act.put, List.setIfInBounds_toArray, List.set_cons_succ, List.set_cons_zero]
    refine wpAnyH_take (i := 5) (oi := igt5) (v := .agg #[.int .i64 p, .int .i64 c, .int .i64 s, .slice la2 live.length lc2]) rfl (by kernel_rfl) (by kernel_rfl) (by kernel_rfl) (fun _ _ _ h => h) (.inl ⟨rfl, by intro wz hz; obtain ⟨⟨q0, q1, q2, q3, q4, q5, q6⟩, ⟨h0, h1, h2, h3⟩⟩ := hz; unfold igt5; go_simp⟩) ⟨NK.out _ Bw3.out, Jw3.out⟩ ?_
    simp only [igt5, Act.put, List.setIfInBounds_toArray, List.set_cons_succ, List.set_cons_zero]
    clear j0 j1 j2 j3 ol gl glt ll t3 b3
    have O8 : Hid (OwnsI w3 E.heap.size (some ⟨E.heap.size, 0, none⟩) [] 0) := OWd.out.keep BC.out
    have OLT : Hid (OwnsI w3 Wd.heap.size la2 live lc2) := OL.out
    have G8 : Hid (E.heap.size ≤ E.heap.size) := by show _ ≤ _; have := ZWc.out; have := ZWd.out; omega
    have NG : Hid (¬ (gA = E.heap.size)) := by show ¬ _; have := GA.out.1; have := ZWc.out; have := ZWd.out; omega
    have GT : Hid (gA < w3.heap.size) := GA.out.2
    have NE : Hid (∀ ad, la2 = some ad → ¬ (ad.block = E.heap.size)) := fun ad e => by have := (GL.out ad e).1; have := ZWc.out; have := ZWd.out; omega
    have GE : Hid (E.heap.size ≤ gA) := by show _ ≤ _; have := GA.out.1; have := ZWc.out; have := ZWd.out; omega
    have LG : Hid (∀ ad, la2 = some ad → w.heap.size + 1 < ad.block) := fun ad e => by have := (GL.out ad e).1; have := ZE.out; have := ZWc.out; have := ZWd.out; omega
    obtain ⟨a11, c11, w11, hrun, o11, tu⟩ := appAll_run E.heap.size w3 Bw3.out.size E.heap.size O8.out oa offs offs.length oc rfl (IO.out.keep Bw3.out) hof
    have B11 : Hid (Below E.heap.size E w11) := Bw3.out.trans (tu.below (fun i e => by rw [e]; exact G8.out) Bw3.out.size)
    have J11 : Hid (w11.cell? ⟨gA, 0, none⟩ = some (.int .i64 p) ∧ w11.cell? ⟨gA, 1, none⟩ = some (.int .i64 c) ∧ w11.cell? ⟨gA, 2, none⟩ = some (.int .i64 s) ∧ w11.cell? ⟨gA, 3, none⟩ = some (.slice la2 live.length lc2)) := by
      obtain ⟨j0, j1, j2, j3⟩ := Jw3.out
      have q : ¬ (gA = E.heap.size) := NG.out
      exact ⟨by rw [tu.cell q GT.out]; exact j0, by rw [tu.cell q GT.out]; exact j1, by rw [tu.cell q GT.out]; exact j2, by rw [tu.cell q GT.out]; exact j3⟩
    have L11 : Hid (IsI w11 la2 live) := by
      obtain ⟨h1, h2 | ⟨b, off, rfl, h3, h4⟩⟩ := ownsI_isI VI.out OLT.out
      · exact ⟨h1, .inl h2⟩
      · exact ⟨h1, .inr ⟨b, off, rfl, Nat.lt_of_lt_of_le h3 tu.size, fun i hi => by rw [tu.cell (NE.out _ rfl) h3]; exact h4 i hi⟩⟩
    have O11 : Hid (OwnsI w11 E.heap.size a11 offs c11) := o11
    refine wpAnyH_ready (rs := [11]) (by kernel_rfl) (by simp) ?_
    refine AllReadyH.cons (o := igt11) rfl (fun K hK => ?_) AllReadyH.nil
    refine step_app rfl _ _ 22 rfl (.slice (some ⟨E.heap.size, 0, none⟩) 0 0) (.slice oa offs.length oc) rfl rfl _ _ hrun ?_
    refine hK.out _ _ ⟨NK.out _ B11.out, J11.out⟩ (fun _ => ?_)
    clear hK K
    try simp only [igt11, Act.put, List.setIfInBounds_toArray, List.set_cons_succ, List.set_cons_zero]
    clear hrun o11 tu
    refine wpAnyH_ready (rs := [14]) (by kernel_rfl) (by simp) ?_
    refine AllReadyH.cons (o := igt14) rfl (fun K hK => ?_) AllReadyH.nil
    unfold igt14
    go_simp
    refine (copy_any ba bc bytes.length bytes w11 rfl (IB.out.keep B11.out) hby).mono ?_
    rintro e w14 ⟨g14, c14, rfl, o14, b14⟩
    go_wp2_with fail
    have B14 : Hid (Below E.heap.size E w14) := B11.out.trans (b14.mono B11.out.size)
    have J14 : Hid (w14.cell? ⟨gA, 0, none⟩ = some (.int .i64 p) ∧ w14.cell? ⟨gA, 1, none⟩ = some (.int .i64 c) ∧ w14.cell? ⟨gA, 2, none⟩ = some (.int .i64 s) ∧ w14.cell? ⟨gA, 3, none⟩ = some (.slice la2 live.length lc2)) := by
      obtain ⟨j0, j1, j2, j3⟩ := J11.out
      exact ⟨bcell b14 j0, bcell b14 j1, bcell b14 j2, bcell b14 j3⟩
    have L14 : Hid (IsI w14 la2 live) := L11.out.keep b14
    have O14 : Hid (OwnsI w14 E.heap.size a11 offs c11) := O11.out.keep b14
    have Y14 : Hid (OwnsB w14 E.heap.size (some ⟨g14, 0, none⟩) bytes c14) := OwnsB.mono o14 B11.out.size
    refine hK.out _ _ ⟨NK.out _ B14.out, J14.out⟩ (fun _ => ?_)
    clear hK K
    try simp only [igt14, Act.put, List.setIfInBounds_toArray, List.set_cons_succ, List.set_cons_zero]
    clear o14 b14
    refine wpAnyH_take (i := 15) (oi := igt15) (v := .agg #[.int .i64 p, .int .i64 c, .int .i64 s, .slice la2 live.length lc2, .int .i64 base, .slice a11 offs.length c11, .slice (some ⟨g14, 0, none⟩) bytes.length c14]) rfl (by kernel_rfl) (by kernel_rfl) (by kernel_rfl) (fun _ _ _ h => h) (.inl ⟨rfl, by intro wz hz; obtain ⟨⟨q0, q1, q2, q3, q4, q5, q6⟩, ⟨h0, h1, h2, h3⟩⟩ := hz; unfold igt15; go_simp⟩) ⟨NK.out _ B14.out, J14.out⟩ ?_
    simp only [igt15, Act.put, List.setIfInBounds_toArray, List.set_cons_succ, List.set_cons_zero]
    have rR : w14.heap[w.heap.size + 1]? = some (.cells (icells 0 0 0 none 0 0 0 none 0 0 none 0 0) 29 (0, 0)) := by rw [B14.out.block (w.heap.size + 1) (by have := ZE.out; omega)]; exact RE.out
    obtain ⟨m0, m1, m2, m3, m4, m5, m6⟩ := icell rR
    have f00 := ithawed rR 0
    have f01 := ithawed rR 1
    have f02 := ithawed rR 2
    have f03 := ithawed rR 3
    have f04 := ithawed rR 4
    have f05 := ithawed rR 5
    have f06 := ithawed rR 6
    have rL := lay7_row (p := p) (c := c) (s := s) (la := la2) (ln := live.length) (lc := lc2) (base := base) (oa := a11) (on := offs.length) (oc := c11) (ba := some ⟨g14, 0, none⟩) (bn := bytes.length) (bc := c14) rR
    have onL := lay7_only w14 (w.heap.size + 1) (.int .i64 p) (.int .i64 c) (.int .i64 s) (.slice la2 live.length lc2) (.int .i64 base) (.slice a11 offs.length c11) (.slice (some ⟨g14, 0, none⟩) bytes.length c14)
    have NR : w.heap.size + 1 < E.heap.size := by have := ZE.out; omega
    have JL : Hid ((lay7 w14 (w.heap.size + 1) (.int .i64 p) (.int .i64 c) (.int .i64 s) (.slice la2 live.length lc2) (.int .i64 base) (.slice a11 offs.length c11) (.slice (some ⟨g14, 0, none⟩) bytes.length c14)).cell? ⟨gA, 0, none⟩ = some (.int .i64 p) ∧ (lay7 w14 (w.heap.size + 1) (.int .i64 p) (.int .i64 c) (.int .i64 s) (.slice la2 live.length lc2) (.int .i64 base) (.slice a11 offs.length c11) (.slice (some ⟨g14, 0, none⟩) bytes.length c14)).cell? ⟨gA, 1, none⟩ = some (.int .i64 c) ∧ (lay7 w14 (w.heap.size + 1) (.int .i64 p) (.int .i64 c) (.int .i64 s) (.slice la2 live.length lc2) (.int .i64 base) (.slice a11 offs.length c11) (.slice (some ⟨g14, 0, none⟩) bytes.length c14)).cell? ⟨gA, 2, none⟩ = some (.int .i64 s) ∧ (lay7 w14 (w.heap.size + 1) (.int .i64 p) (.int .i64 c) (.int .i64 s) (.slice la2 live.length lc2) (.int .i64 base) (.slice a11 offs.length c11) (.slice (some ⟨g14, 0, none⟩) bytes.length c14)).cell? ⟨gA, 3, none⟩ = some (.slice la2 live.length lc2)) := by
      obtain ⟨j0, j1, j2, j3⟩ := J14.out
      have q : gA ≠ w.heap.size + 1 := by have := GE.out; omega
      exact ⟨by rw [onL.cell (p := ⟨gA, 0, none⟩) q]; exact j0, by rw [onL.cell (p := ⟨gA, 1, none⟩) q]; exact j1, by rw [onL.cell (p := ⟨gA, 2, none⟩) q]; exact j2, by rw [onL.cell (p := ⟨gA, 3, none⟩) q]; exact j3⟩
    have SL : Hid ((lay7 w14 (w.heap.size + 1) (.int .i64 p) (.int .i64 c) (.int .i64 s) (.slice la2 live.length lc2) (.int .i64 base) (.slice a11 offs.length c11) (.slice (some ⟨g14, 0, none⟩) bytes.length c14)).cell? ⟨w.heap.size, 0, none⟩ = some (.int .i64 p) ∧ (lay7 w14 (w.heap.size + 1) (.int .i64 p) (.int .i64 c) (.int .i64 s) (.slice la2 live.length lc2) (.int .i64 base) (.slice a11 offs.length c11) (.slice (some ⟨g14, 0, none⟩) bytes.length c14)).cell? ⟨w.heap.size, 1, none⟩ = some (.int .i64 c) ∧ (lay7 w14 (w.heap.size + 1) (.int .i64 p) (.int .i64 c) (.int .i64 s) (.slice la2 live.length lc2) (.int .i64 base) (.slice a11 offs.length c11) (.slice (some ⟨g14, 0, none⟩) bytes.length c14)).cell? ⟨w.heap.size, 2, none⟩ = some (.int .i64 s) ∧ (lay7 w14 (w.heap.size + 1) (.int .i64 p) (.int .i64 c) (.int .i64 s) (.slice la2 live.length lc2) (.int .i64 base) (.slice a11 offs.length c11) (.slice (some ⟨g14, 0, none⟩) bytes.length c14)).cell? ⟨w.heap.size, 3, none⟩ = some (.slice la live.length lc) ∧ (lay7 w14 (w.heap.size + 1) (.int .i64 p) (.int .i64 c) (.int .i64 s) (.slice la2 live.length lc2) (.int .i64 base) (.slice a11 offs.length c11) (.slice (some ⟨g14, 0, none⟩) bytes.length c14)).cell? ⟨w.heap.size, 4, none⟩ = some (.int .i64 base) ∧ (lay7 w14 (w.heap.size + 1) (.int .i64 p) (.int .i64 c) (.int .i64 s) (.slice la2 live.length lc2) (.int .i64 base) (.slice a11 offs.length c11) (.slice (some ⟨g14, 0, none⟩) bytes.length c14)).cell? ⟨w.heap.size, 5, none⟩ = some (.slice oa offs.length oc) ∧ (lay7 w14 (w.heap.size + 1) (.int .i64 p) (.int .i64 c) (.int .i64 s) (.slice la2 live.length lc2) (.int .i64 base) (.slice a11 offs.length c11) (.slice (some ⟨g14, 0, none⟩) bytes.length c14)).cell? ⟨w.heap.size, 6, none⟩ = some (.slice ba bytes.length bc)) := by
      obtain ⟨j0, j1, j2, j3, j4, j5, j6⟩ := NK.out _ B14.out
      have q : w.heap.size ≠ w.heap.size + 1 := by omega
      exact ⟨by rw [onL.cell (p := ⟨w.heap.size, 0, none⟩) q]; exact j0, by rw [onL.cell (p := ⟨w.heap.size, 1, none⟩) q]; exact j1, by rw [onL.cell (p := ⟨w.heap.size, 2, none⟩) q]; exact j2, by rw [onL.cell (p := ⟨w.heap.size, 3, none⟩) q]; exact j3, by rw [onL.cell (p := ⟨w.heap.size, 4, none⟩) q]; exact j4, by rw [onL.cell (p := ⟨w.heap.size, 5, none⟩) q]; exact j5, by rw [onL.cell (p := ⟨w.heap.size, 6, none⟩) q]; exact j6⟩
    have bL := (BWE.out.trans (B14.out.mono BWE.out.size)).trans (onL.below (show w.heap.size ≤ w.heap.size + 1 by omega))
    have iL : IsI (lay7 w14 (w.heap.size + 1) (.int .i64 p) (.int .i64 c) (.int .i64 s) (.slice la2 live.length lc2) (.int .i64 base) (.slice a11 offs.length c11) (.slice (some ⟨g14, 0, none⟩) bytes.length c14)) la2 live := L14.out.tgG (Tg.ofOnly onL) (fun ad e => by have := LG.out ad e; omega)
    have iO : OwnsI (lay7 w14 (w.heap.size + 1) (.int .i64 p) (.int .i64 c) (.int .i64 s) (.slice la2 live.length lc2) (.int .i64 base) (.slice a11 offs.length c11) (.slice (some ⟨g14, 0, none⟩) bytes.length c14)) w.heap.size a11 offs c11 := OwnsI.tg (O14.out) (Tg.ofOnly onL) NR |>.mono (by omega)
    have iB : OwnsB (lay7 w14 (w.heap.size + 1) (.int .i64 p) (.int .i64 c) (.int .i64 s) (.slice la2 live.length lc2) (.int .i64 base) (.slice a11 offs.length c11) (.slice (some ⟨g14, 0, none⟩) bytes.length c14)) w.heap.size (some ⟨g14, 0, none⟩) bytes c14 := (ownsB_only Y14.out onL (fun ad e => by have := ownsB_ge Y14.out ad e; omega)).mono (by omega)
    have LV : Hid (lay7 w14 (w.heap.size + 1) (.int .i64 p) (.int .i64 c) (.int .i64 s) (.slice la2 live.length lc2) (.int .i64 base) (.slice a11 offs.length c11) (.slice (some ⟨g14, 0, none⟩) bytes.length c14) = (((((((w14.setCell ⟨w.heap.size + 1, 0, none⟩ (.int .i64 p)).setCell ⟨w.heap.size + 1, 1, none⟩ (.int .i64 c)).setCell ⟨w.heap.size + 1, 2, none⟩ (.int .i64 s)).setCell ⟨w.heap.size + 1, 3, none⟩ (.slice la2 live.length lc2)).setCell ⟨w.heap.size + 1, 4, none⟩ (.int .i64 base)).setCell ⟨w.heap.size + 1, 5, none⟩ (.slice a11 offs.length c11)).setCell ⟨w.heap.size + 1, 6, none⟩ (.slice (some ⟨g14, 0, none⟩) bytes.length c14))) := rfl
    obtain ⟨LW, hLW⟩ : ∃ LW, lay7 w14 (w.heap.size + 1) (.int .i64 p) (.int .i64 c) (.int .i64 s) (.slice la2 live.length lc2) (.int .i64 base) (.slice a11 offs.length c11) (.slice (some ⟨g14, 0, none⟩) bytes.length c14) = LW := ⟨_, rfl⟩
    rw [hLW] at rL bL LV iL iO iB JL SL
    obtain ⟨u0, u1, u2, u3, u4, u5, u6⟩ := icell rL
    have POST : Hid (TheirsP w p c s base live offs bytes (.returned (.agg #[.int .i64 p, .int .i64 c, .int .i64 s, .slice la2 live.length lc2, .int .i64 base, .slice a11 offs.length c11, .slice (some ⟨g14, 0, none⟩) bytes.length c14])) LW) := ⟨la2, lc2, a11, c11, g14, c14, rfl, iL, fun ad e => by have := LG.out ad e; omega, iO, iB, bL⟩
    clear hLW rL bL iL iO iB onL
    refine wpAnyH_ready (rs := [16]) (by kernel_rfl) (by simp) ?_
    refine AllReadyH.cons (o := igt16) rfl (fun K hK => ?_) AllReadyH.nil
    unfold igt16
    go_simp
    rw [← LV.out]
    refine hK.out _ _ ⟨SL.out, JL.out⟩ (fun _ => ?_)
    clear hK K
    try simp only [igt16, Act.put, List.setIfInBounds_toArray, List.set_cons_succ, List.set_cons_zero]
    refine wpAnyH_done (by kernel_rfl) ?_ _
    go_wp2
    refine bodyPost_ret (v := .agg #[.int .i64 p, .int .i64 c, .int .i64 s, .slice la2 live.length lc2, .int .i64 base, .slice a11 offs.length c11, .slice (some ⟨g14, 0, none⟩) bytes.length c14]) (by simp [results, Tryd.results7, go_sem, u0, u1, u2, u3, u4, u5, u6]) rfl POST.out
end Go.Proofs.YtbfamjnnlcopiaaDoor
