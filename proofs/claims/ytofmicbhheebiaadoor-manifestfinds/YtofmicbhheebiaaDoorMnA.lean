/- Layer 21: bytes.Equal, slots' sectors, which manifests may be, the nearest one, orders of numbers. -/
import Derived.Test.YtofmicbhheebiaaDoorGzAB
import Derived.Test.YtofmicbhheebiaaDoorCnB
import Derived.Test.YtofmicbhheebiaaDoorGzAF
import Derived.Test.YtofmicbhheebiaaDoorGzAE
import Derived.Test.YtofmicbhheebiaaDoorDkH
import Derived.Lib.MinMax
import Derived.Deep.CutBlock
import Derived.Deep.CutRange
import Derived.Deep.RegionHeld3
namespace Go.Proofs.YtofmicbhheebiaaDoor
open Go.RowKit
set_option linter.unusedVariables false
set_option maxRecDepth 4000

theorem bequal_any (a a' : Option Addr) (n n' cap cap' : Nat) (l l' : List Int) (w : World) (h : IsB w a l) (h' : IsB w a' l') (hn : n = l.length) (hn' : n' = l'.length) :
    Calls Tryd.prog 59 #[.slice a n cap, .slice a' n' cap'] w fun e w' => e = .returned (.bool (decide (l = l'))) ∧ w = w' := by
  subst hn hn'
  have k1 := conv_run w a cap l h
  have k2 := conv_run w a' cap' l' h'
  have hb1 : AllB l := h.1
  have hb2 : AllB l' := h'.1
  clear h h'
  by_cases e : l = l'
  · subst e
    clear hb1 hb2
    go_enter Tryd.func59, Tryd.ntmps59
    go_wp2
    go_ret
    exact ⟨by simp, rfl⟩
  · have hne : bs l ≠ bs l' := fun h => e (bs_inj hb1 hb2 h)
    clear hb1 hb2
    go_enter Tryd.func59, Tryd.ntmps59
    go_wp2
    all_goals (go_ret; exact ⟨by simp [e]; exact fun h => hne (ba_inj h), rfl⟩)

/-- The sector of a slot. -/
def secM (s n : Int) : Int := if s < 0 ∨ 1 < s ∨ n < 8 ∨ 65536 < n then -1 else if s = 0 then 0 else n - 1
theorem msector_any (s n : Int) (w : World) :
    Calls Tryd.prog 20 #[.int .i64 s, .int .i64 n] w fun e w' => e = .returned (.int .i64 (secM s n)) ∧ w = w' := by
  by_cases h1 : n < 8
  · have e : secM s n = -1 := if_pos (by omega)
    have HE : Hid (secM s n = -1) := e
    clear e
    go_enter Tryd.func20, Tryd.ntmps20
    go_wp2
    go_ret
    exact ⟨by rw [HE.out]; rfl, rfl⟩
  by_cases h2 : 65536 < n
  · have HE : Hid (secM s n = -1) := if_pos (by omega)
    go_enter Tryd.func20, Tryd.ntmps20
    go_wp2
    go_ret
    exact ⟨by rw [HE.out]; rfl, rfl⟩
  by_cases h3 : s = 0
  · have HE : Hid (secM s n = 0) := by show _ = _; rw [secM, if_neg (by omega), if_pos h3]
    subst h3
    go_enter Tryd.func20, Tryd.ntmps20
    go_wp2
    go_ret
    exact ⟨by rw [HE.out]; rfl, rfl⟩
  by_cases h4 : s = 1
  · have HE : Hid (secM s n = n - 1) := by show _ = _; rw [secM, if_neg (by omega), if_neg h3]
    subst h4
    clear h3
    have b0 : ((1 : Int) == 0) = false := by decide
    have b1 : IntKind.i64.wrap (n - 1) = n - 1 := by rw [IntKind.wrap_i64]; omega
    go_enter Tryd.func20, Tryd.ntmps20
    go_wp2
    go_ret
    exact ⟨by rw [HE.out]; rfl, rfl⟩
  · have HE : Hid (secM s n = -1) := if_pos (by omega)
    have b0 : (s == 0) = false := by simpa using h3
    have b1 : (s == 1) = false := by simpa using h4
    go_enter Tryd.func20, Tryd.ntmps20
    go_wp2
    go_ret
    exact ⟨by rw [HE.out]; rfl, rfl⟩

theorem box21 (T : TypeId) (w : World) (s f n : Int) : ∃ D, w.alloc (.cells #[.int .i64 s, .int .i64 f, .int .i64 n] T) = D ∧ D.heap[w.heap.size]? = some (.cells #[.int .i64 s, .int .i64 f, .int .i64 n] T (0, 0)) ∧ Below w.heap.size w D :=
  ⟨_, rfl, Go.heap_alloc_new w _, (Below.refl _ w).alloc (Nat.le_refl _) _⟩
theorem three21 {T : TypeId} {w : World} {b : Nat} {x y z : Value} (h : w.heap[b]? = some (.cells #[x, y, z] T (0, 0))) : w.cell? ⟨b, 0, none⟩ = some x ∧ w.cell? ⟨b, 1, none⟩ = some y ∧ w.cell? ⟨b, 2, none⟩ = some z :=
  ⟨cell_of_row _ _ 0 _ _ _ h, cell_of_row _ _ 1 _ _ _ h, cell_of_row _ _ 2 _ _ _ h⟩

/-- The value of a manifest. -/
def Mn.v (m : Mn) : Value := .agg #[.int .i64 m.s, .int .i64 m.f, .int .i64 m.n]
def eqM (a b : Mn) : Bool := decide (a.s = b.s ∧ a.f = b.f ∧ a.n = b.n)
theorem eqM_iff {a b : Mn} : eqM a b = true ↔ a = b := by
  obtain ⟨s, f, n⟩ := a
  obtain ⟨s', f', n'⟩ := b
  simp [eqM]
theorem inM (T : TypeId) (w : World) (a b : Mn) (hS : Tryd.prog.underlying T = some (.struct (Tryd.prog.fieldsOf T))) (hp : Tryd.prog.stoodInHeld T = false) (hf : Tryd.prog.fieldsOf 48 = Tryd.prog.fieldsOf T) : (Op.equalIn 10000 T a.v b.v).run Tryd.prog w = .ok (eqM a b) w := by
  obtain ⟨s, f, n⟩ := a
  obtain ⟨s', f', n'⟩ := b
  unfold Mn.v eqM
  rw [show (10000 : Nat) = 9999 + 1 from rfl, run_equalIn_agg w 9999 T _ _ hS hp, ← hf]
  by_cases h0 : s = s' <;> by_cases h1 : f = f' <;> by_cases h2 : n = n' <;> simp [go_sem, h0, h1, h2, Tryd.underlying3]

/-- Three cells of a block. -/
def lay3 (w : World) (g : Nat) (a b c : Value) : World := ((w.setCell ⟨g, 0, none⟩ a).setCell ⟨g, 1, none⟩ b).setCell ⟨g, 2, none⟩ c
theorem lay3_only (w : World) (g : Nat) (a b c : Value) : Only g w (lay3 w g a b c) := ((Only.set g 0 a w).trans (Only.set g 1 b _)).trans (Only.set g 2 c _)
theorem lay3_row {w : World} {g : Nat} {t : TypeId} {a b c a0 b0 c0 : Value} (h : w.heap[g]? = some (.cells #[a0, b0, c0] t (0, 0))) : (lay3 w g a b c).heap[g]? = some (.cells #[a, b, c] t (0, 0)) := by
  unfold lay3
  have h1 := heap_setCell_same w g 0 _ _ a h
  have h2 := heap_setCell_same _ g 1 _ _ b h1
  exact heap_setCell_same _ g 2 _ _ c h2
theorem threeF21 {w : World} {b : Nat} {cs : Array Value} {T : TypeId} (h : w.heap[b]? = some (.cells cs T (0, 0))) : w.frozen? ⟨b, 0, none⟩ = false ∧ w.frozen? ⟨b, 1, none⟩ = false ∧ w.frozen? ⟨b, 2, none⟩ = false :=
  ⟨frozen_of_row _ _ 0 _ _ h, frozen_of_row _ _ 1 _ _ h, frozen_of_row _ _ 2 _ _ h⟩
/-- A block of three noughts, new. -/
theorem res21 (T : TypeId) (w : World) : ∃ D, w.alloc (.cells #[.int .i64 0, .int .i64 0, .int .i64 0] T) = D ∧ D.heap[w.heap.size]? = some (.cells #[.int .i64 0, .int .i64 0, .int .i64 0] T (0, 0)) ∧ Below w.heap.size w D ∧ D.heap.size = w.heap.size + 1 :=
  ⟨_, rfl, Go.heap_alloc_new w _, (Below.refl _ w).alloc (Nat.le_refl _) _, by simp⟩

def nearM (m : Mn) : Mn := ⟨min (max m.s 1) 4294967295, min (max m.f 1) 65534, min (max m.n 8) 65542⟩
theorem nearM_ok (m : Mn) : eqM m (nearM m) = okM m := by
  unfold eqM okM nearM
  apply decide_eq_decide.2
  simp only
  omega
set_option maxRecDepth 20000 in
set_option maxHeartbeats 1000000 in
theorem mnearest_any (m : Mn) (w : World) :
    Calls Tryd.prog 37 #[m.v] w fun e w' => e = .returned (nearM m).v ∧ Below w.heap.size w w' := by
  obtain ⟨s, f, n⟩ := m
  obtain ⟨D, hD, rD, bD⟩ := box21 48 w s f n
  obtain ⟨E, hE, rE, bE, zE⟩ := res21 48 D
  have sD : D.heap.size = w.heap.size + 1 := by rw [← hD]; simp
  rw [sD] at rE
  have rD' : E.heap[w.heap.size]? = some (.cells #[.int .i64 s, .int .i64 f, .int .i64 n] 48 (0, 0)) := by rw [bE.block _ (by omega)]; exact rD
  obtain ⟨y0, y1, y2⟩ := three21 rD'
  obtain ⟨z0, z1, z2⟩ := three21 rE
  obtain ⟨f0, f1, f2⟩ := threeF21 rE
  have HD : Hid _ := hD
  have HE : Hid (D.alloc (.cells #[.int .i64 0, .int .i64 0, .int .i64 0] 48) = E) := hE
  obtain ⟨W, hW⟩ : ∃ W, lay3 E (w.heap.size + 1) (.int .i64 (nearM ⟨s, f, n⟩).s) (.int .i64 (nearM ⟨s, f, n⟩).f) (.int .i64 (nearM ⟨s, f, n⟩).n) = W := ⟨_, rfl⟩
  have BW : Hid (Below w.heap.size w W) := by
    show Below _ _ _
    rw [← hW]
    exact (bD.trans (bE.mono (by omega))).trans ((lay3_only _ _ _ _ _).below (by omega))
  obtain ⟨e0, e1, e2⟩ := three21 (lay3_row (a := .int .i64 (nearM ⟨s, f, n⟩).s) (b := .int .i64 (nearM ⟨s, f, n⟩).f) (c := .int .i64 (nearM ⟨s, f, n⟩).n) rE)
  have HW : Hid _ := hW
  have HS : Hid (D.heap.size = w.heap.size + 1) := sD
  rw [hW] at e0 e1 e2
  clear hD rD bD hE rE bE zE rD' sD hW
  unfold Mn.v
  go_enter Tryd.func37, Tryd.ntmps37
  go_upto_region 1 with (fail)
  rw [HD.out, HE.out]
  (try rw [HS.out])
  go_wp2
  have HW2 := HW.out
  unfold lay3 nearM at HW2
  simp only at HW2
  rw [HW2]
  exact bodyPost_ret (v := .agg #[.int .i64 (nearM ⟨s, f, n⟩).s, .int .i64 (nearM ⟨s, f, n⟩).f, .int .i64 (nearM ⟨s, f, n⟩).n]) (by simp [results, Tryd.results37, go_sem, e0, e1, e2]) rfl ⟨rfl, BW.out⟩

def cmpI (a b : Int) : Int := if a < b then -1 else if b < a then 1 else 0
theorem cmpN_any (a : Int) (w : World) : Calls Tryd.prog 71 #[.int .i64 a] w fun e w' => e = .returned (.bool false) ∧ w = w' := by
  go_enter Tryd.func71, Tryd.ntmps71
  go_wp2
  go_ret
  exact ⟨by simp, rfl⟩
theorem cmpC_any (a b : Int) (w : World) : Calls Tryd.prog 63 #[.int .i64 a, .int .i64 b] w fun e w' => e = .returned (.int .i64 (cmpI a b)) ∧ w = w' := by
  obtain ⟨v, hv⟩ : ∃ v, cmpI a b = v := ⟨_, rfl⟩
  have HV : Hid (cmpI a b = v) := hv
  rw [hv]
  unfold cmpI at hv
  by_cases h1 : a < b
  · rw [if_pos h1] at hv
    subst hv
    go_enter Tryd.func63, Tryd.ntmps63
    go_wp2_with (first | (go_at_call 71; refine (cmpN_any a _).mono ?_; rintro e w' ⟨rfl, rfl⟩) | (go_at_call 71; refine (cmpN_any b _).mono ?_; rintro e w' ⟨rfl, rfl⟩))
    go_ret
    exact ⟨rfl, rfl⟩
  by_cases h2 : b < a
  · rw [if_neg h1, if_pos h2] at hv
    subst hv
    go_enter Tryd.func63, Tryd.ntmps63
    go_wp2_with (first | (go_at_call 71; refine (cmpN_any a _).mono ?_; rintro e w' ⟨rfl, rfl⟩) | (go_at_call 71; refine (cmpN_any b _).mono ?_; rintro e w' ⟨rfl, rfl⟩))
    go_ret
    exact ⟨rfl, rfl⟩
  · rw [if_neg h1, if_neg h2] at hv
    subst hv
    go_enter Tryd.func63, Tryd.ntmps63
    go_wp2_with (first | (go_at_call 71; refine (cmpN_any a _).mono ?_; rintro e w' ⟨rfl, rfl⟩) | (go_at_call 71; refine (cmpN_any b _).mono ?_; rintro e w' ⟨rfl, rfl⟩))
    go_ret
    exact ⟨rfl, rfl⟩

/-- A manifest in a slot. -/
structure Fd where
  l : Int
  m : Mn
def Fd.cs (x : Fd) : Array Value := #[.int .i64 x.l, .int .i64 x.m.s, .int .i64 x.m.f, .int .i64 x.m.n]
def Fd.v (x : Fd) : Value := .agg x.cs
theorem boxF21 (T : TypeId) (w : World) (x : Fd) : ∃ D, w.alloc (.cells x.cs T) = D ∧ D.heap[w.heap.size]? = some (.cells x.cs T (0, 0)) ∧ Below w.heap.size w D ∧ D.heap.size = w.heap.size + 1 :=
  ⟨_, rfl, Go.heap_alloc_new w _, (Below.refl _ w).alloc (Nat.le_refl _) _, by simp⟩
theorem four21 {T : TypeId} {w : World} {b : Nat} {x y z u : Value} (h : w.heap[b]? = some (.cells #[x, y, z, u] T (0, 0))) : w.cell? ⟨b, 0, none⟩ = some x ∧ w.cell? ⟨b, 1, none⟩ = some y ∧ w.cell? ⟨b, 2, none⟩ = some z ∧ w.cell? ⟨b, 3, none⟩ = some u :=
  ⟨cell_of_row _ _ 0 _ _ _ h, cell_of_row _ _ 1 _ _ _ h, cell_of_row _ _ 2 _ _ _ h, cell_of_row _ _ 3 _ _ _ h⟩
theorem mbyseq_any (x y : Fd) (w : World) : Calls Tryd.prog 44 #[x.v, y.v] w fun e w' => e = .returned (.int .i64 (cmpI x.m.s y.m.s)) ∧ Below w.heap.size w w' := by
  obtain ⟨D, hD, rD, bD, sD⟩ := boxF21 50 w x
  obtain ⟨E, hE, rE, bE, zE⟩ := boxF21 50 D y
  rw [sD] at rE
  have rD' : E.heap[w.heap.size]? = some (.cells x.cs 50 (0, 0)) := by rw [bE.block _ (by omega)]; exact rD
  have B : Hid (Below w.heap.size w E) := bD.trans (bE.mono (by omega))
  obtain ⟨l, s, f, n⟩ := x
  obtain ⟨l', s', f', n'⟩ := y
  unfold Fd.cs at rD' rE hD hE
  obtain ⟨x0, x1, x2, x3⟩ := four21 rD'
  obtain ⟨y0, y1, y2, y3⟩ := four21 rE
  have HD : Hid _ := hD
  have HE : Hid _ := hE
  have HS : Hid (D.heap.size = w.heap.size + 1) := sD
  clear hD rD bD hE rE bE zE rD' sD
  unfold Fd.v Fd.cs
  go_enter Tryd.func44, Tryd.ntmps44
  go_upto_region 1 with (fail)
  rw [HD.out, HE.out]
  (try rw [HS.out])
  go_wp2_with (go_at_call 63; refine (cmpC_any s s' _).mono ?_; rintro e w' ⟨rfl, rfl⟩)
  go_ret
  exact ⟨rfl, B.out⟩
end Go.Proofs.YtofmicbhheebiaaDoor
