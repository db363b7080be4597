/- What Plan answers, said ahead; Right; the document's example. -/
import Derived.Test.YtbnmbkohmmiamaaDoorLcA
import Derived.Test.YtbnmbkohmmiamaaDoorSlT
namespace Go.Proofs.YtbnmbkohmmiamaaDoor
open Go.RowKit
set_option linter.unusedVariables false

/-- What Plan leaves. -/
def PlanP (w : World) (P : Int) (ts : List Td) (e : Ending) (w' : World) : Prop :=
  (stdB P ts = true ∧ ∃ a1 n1 c1 a2 n2 c2, e = .returned (.tuple #[.slice a1 n1 c1, .slice a2 n2 c2, .int .i64 0]) ∧ (planT (ts.map snT) (FT ts)).length = n1 ∧ (planV (ts.map snT) (FT ts)).length = n2 ∧ Told w' w.heap.size (.slice a1 n1 c1) (planT (ts.map snT) (FT ts)) ∧ Vs w' w.heap.size a2 (planV (ts.map snT) (FT ts)) c2 ∧ Below w.heap.size w w') ∨
  (stdB P ts = false ∧ e = .returned (.tuple #[.slice none 0 0, .slice none 0 0, .int .i64 4]) ∧ Below w.heap.size w w')
def PlanC : Prop := ∀ (P : Int) (a : Option Addr) (n cap : Nat) (ts : List Td) (w : World), Tabs w → RdT w a ts → ts.length = n → n ≤ 4000000000000000000 → (∀ t ∈ ts, -9223372036854775808 ≤ t.p ∧ t.p ≤ 9223372036854775807) → Calls Tryd.prog 10 #[.int .i64 P, .slice a n cap] w (PlanP w P ts)
theorem PlanP.yes {w w' : World} {P : Int} {ts : List Td} {e : Ending} (h : PlanP w P ts e w') (hs : stdB P ts = true) : ∃ a1 n1 c1 a2 n2 c2, e = .returned (.tuple #[.slice a1 n1 c1, .slice a2 n2 c2, .int .i64 0]) ∧ (planT (ts.map snT) (FT ts)).length = n1 ∧ (planV (ts.map snT) (FT ts)).length = n2 ∧ Told w' w.heap.size (.slice a1 n1 c1) (planT (ts.map snT) (FT ts)) ∧ Vs w' w.heap.size a2 (planV (ts.map snT) (FT ts)) c2 ∧ Below w.heap.size w w' := by
  rcases h with ⟨_, h⟩ | ⟨h, _⟩
  · exact h
  · rw [hs] at h; cases h
theorem PlanP.no {w w' : World} {P : Int} {ts : List Td} {e : Ending} (h : PlanP w P ts e w') (hs : stdB P ts = false) : e = .returned (.tuple #[.slice none 0 0, .slice none 0 0, .int .i64 4]) ∧ Below w.heap.size w w' := by
  rcases h with ⟨h, _⟩ | ⟨_, h⟩
  · rw [hs] at h; cases h
  · exact h
theorem lright_any (P : Int) (a : Option Addr) (n cap : Nat) (ts : List Td) (w : World) (hT : Tabs w) (h : RdT w a ts) (hn : ts.length = n) (hn9 : n ≤ 4000000000000000000) (hr : ∀ t ∈ ts, -9223372036854775808 ≤ t.p ∧ t.p ≤ 9223372036854775807) (r : Bool) (hR : stdB P ts = r) :
    Calls Tryd.prog 12 #[.int .i64 P, .slice a n cap] w fun e w' => e = .returned (.bool r) ∧ Below w.heap.size w w' := by
  have HT : Hid (Tabs w) := hT
  have H : Hid (RdT w a ts) := h
  have HN : Hid (ts.length = n) := hn
  have HRG : Hid (∀ t ∈ ts, -9223372036854775808 ≤ t.p ∧ t.p ≤ 9223372036854775807) := hr
  have HR : Hid (stdB P ts = r) := hR
  clear hT h hn hr hR
  go_enter Tryd.func12, Tryd.ntmps12
  go_wp2_with fail
  refine (stand_any P a n cap ts _ HT.out H.out HN.out hn9 HRG.out r HR.out).mono ?_
  rintro e w1 (⟨rfl, a1, c1, L, ps, rfl, hst⟩ | ⟨rfl, rfl, b1⟩)
  · have B1 : Hid (Below w.heap.size w w1) := hst.bel
    clear hst
    go_wp2
    go_ret
    exact ⟨rfl, B1.out⟩
  · have B1 : Hid (Below w.heap.size w w1) := b1
    clear b1
    go_wp2
    go_ret
    exact ⟨rfl, B1.out⟩
/-- The document's example. -/
def exT : List Td := [⟨1, 1, 0, [2, 5]⟩, ⟨4, 1, 0, [0]⟩, ⟨6, 7, 300, [0]⟩]
theorem ex_std : stdB 9 exT = true := by decide +kernel
theorem ex_T : planT (exT.map snT) (FT exT) = [⟨0, 1, 0, [0, 1, 2]⟩, ⟨1, 7, 300, [0]⟩] := by kernel_rfl
theorem ex_V : planV (exT.map snT) (FT exT) = [⟨304, 256, 24⟩, ⟨376, 280, 24⟩, ⟨1024, 304, 24⟩, ⟨256, 0, 256⟩, ⟨1536, 256, 512⟩] := by kernel_rfl
def exW (w : World) : World := (((w.alloc (.cells #[.int .i64 2, .int .i64 5] 3)).alloc (.cells #[.int .i64 0] 3)).alloc (.cells #[.int .i64 0] 3)).alloc (.cells #[.int .i64 1, .int .i64 1, .int .i64 0, .slice (some ⟨w.heap.size, 0, none⟩) 2 2, .int .i64 4, .int .i64 1, .int .i64 0, .slice (some ⟨w.heap.size + 1, 0, none⟩) 1 1, .int .i64 6, .int .i64 7, .int .i64 300, .slice (some ⟨w.heap.size + 2, 0, none⟩) 1 1] 46)
theorem exW_below (w : World) : Below w.heap.size w (exW w) := (((Below.refl _ w).alloc (Nat.le_refl _) _).alloc (by simp) _).alloc (by simp; omega) _ |>.alloc (by simp; omega) _
theorem exW_0 (w : World) : (exW w).heap[w.heap.size]? = some (.cells #[.int .i64 2, .int .i64 5] 3 (0, 0)) := by
  unfold exW
  rw [Go.heap_alloc_old _ _ (by simp; omega), Go.heap_alloc_old _ _ (by simp; omega), Go.heap_alloc_old _ _ (by simp)]
  exact Go.heap_alloc_new w _
theorem exW_1 (w : World) : (exW w).heap[w.heap.size + 1]? = some (.cells #[.int .i64 0] 3 (0, 0)) := by
  unfold exW
  rw [Go.heap_alloc_old _ _ (by simp), Go.heap_alloc_old _ _ (by simp)]
  have := Go.heap_alloc_new (w.alloc (.cells #[.int .i64 2, .int .i64 5] 3)) (.cells #[.int .i64 0] 3)
  rw [World.size_alloc] at this
  exact this
theorem exW_2 (w : World) : (exW w).heap[w.heap.size + 2]? = some (.cells #[.int .i64 0] 3 (0, 0)) := by
  unfold exW
  rw [Go.heap_alloc_old _ _ (by simp)]
  have := Go.heap_alloc_new ((w.alloc (.cells #[.int .i64 2, .int .i64 5] 3)).alloc (.cells #[.int .i64 0] 3)) (.cells #[.int .i64 0] 3)
  rw [World.size_alloc, World.size_alloc] at this
  exact this
theorem exW_3 (w : World) : (exW w).heap[w.heap.size + 3]? = some (.cells #[.int .i64 1, .int .i64 1, .int .i64 0, .slice (some ⟨w.heap.size, 0, none⟩) 2 2, .int .i64 4, .int .i64 1, .int .i64 0, .slice (some ⟨w.heap.size + 1, 0, none⟩) 1 1, .int .i64 6, .int .i64 7, .int .i64 300, .slice (some ⟨w.heap.size + 2, 0, none⟩) 1 1] 46 (0, 0)) := by
  unfold exW
  have := Go.heap_alloc_new (((w.alloc (.cells #[.int .i64 2, .int .i64 5] 3)).alloc (.cells #[.int .i64 0] 3)).alloc (.cells #[.int .i64 0] 3)) (.cells #[.int .i64 1, .int .i64 1, .int .i64 0, .slice (some ⟨w.heap.size, 0, none⟩) 2 2, .int .i64 4, .int .i64 1, .int .i64 0, .slice (some ⟨w.heap.size + 1, 0, none⟩) 1 1, .int .i64 6, .int .i64 7, .int .i64 300, .slice (some ⟨w.heap.size + 2, 0, none⟩) 1 1] 46)
  rw [World.size_alloc, World.size_alloc, World.size_alloc] at this
  exact this
theorem ex_rd (w : World) : RdT (exW w) (some ⟨w.heap.size + 3, 0, none⟩) exT := by
  have q0 := exW_0 w
  have q1 := exW_1 w
  have q2 := exW_2 w
  have q3 := exW_3 w
  intro i hi
  have hi : i < 3 := hi
  have ml : (2 : Nat) ≤ maxLen := by decide
  rcases i with _ | _ | _ | i
  · refine ⟨w.heap.size + 3, 0, some ⟨w.heap.size, 0, none⟩, 2, rfl, cell_of_row _ _ 0 _ _ _ q3, cell_of_row _ _ 1 _ _ _ q3, cell_of_row _ _ 2 _ _ _ q3, cell_of_row _ _ 3 _ _ _ q3, ⟨by intro x hx; simp [exT] at hx; omega, .inr ⟨w.heap.size, 0, rfl, hlt q0, fun j hj => ?_⟩⟩, by show 2 ≤ maxLen; exact ml⟩
    have hj : j < 2 := hj
    rcases j with _ | _ | j
    · exact cell_of_row _ _ 0 _ _ _ q0
    · exact cell_of_row _ _ 1 _ _ _ q0
    · omega
  · refine ⟨w.heap.size + 3, 0, some ⟨w.heap.size + 1, 0, none⟩, 1, rfl, cell_of_row _ _ 4 _ _ _ q3, cell_of_row _ _ 5 _ _ _ q3, cell_of_row _ _ 6 _ _ _ q3, cell_of_row _ _ 7 _ _ _ q3, ⟨by intro x hx; simp [exT] at hx; omega, .inr ⟨w.heap.size + 1, 0, rfl, hlt q1, fun j hj => ?_⟩⟩, by show 1 ≤ maxLen; omega⟩
    have hj : j < 1 := hj
    obtain rfl : j = 0 := by omega
    exact cell_of_row _ _ 0 _ _ _ q1
  · refine ⟨w.heap.size + 3, 0, some ⟨w.heap.size + 2, 0, none⟩, 1, rfl, cell_of_row _ _ 8 _ _ _ q3, cell_of_row _ _ 9 _ _ _ q3, cell_of_row _ _ 10 _ _ _ q3, cell_of_row _ _ 11 _ _ _ q3, ⟨by intro x hx; simp [exT] at hx; omega, .inr ⟨w.heap.size + 2, 0, rfl, hlt q2, fun j hj => ?_⟩⟩, by show 1 ≤ maxLen; omega⟩
    have hj : j < 1 := hj
    obtain rfl : j = 0 := by omega
    exact cell_of_row _ _ 0 _ _ _ q2
  · omega
set_option maxRecDepth 20000 in
set_option maxHeartbeats 4000000 in
theorem alive_any (HP : PlanC) (w : World) (hT : Tabs w) :
    Calls Tryd.prog 8 #[] w fun e w' => e = .returned (.bool true) ∧ Below w.heap.size w w' := by
  have HPL : Hid PlanC := HP
  have HT : Hid (Tabs w) := hT
  obtain ⟨E, hE⟩ : ∃ E, exW w = E := ⟨_, rfl⟩
  have HE : Hid ((((w.alloc (.cells #[.int .i64 2, .int .i64 5] 3)).alloc (.cells #[.int .i64 0] 3)).alloc (.cells #[.int .i64 0] 3)).alloc (.cells #[.int .i64 1, .int .i64 1, .int .i64 0, .slice (some ⟨w.heap.size, 0, none⟩) 2 2, .int .i64 4, .int .i64 1, .int .i64 0, .slice (some ⟨w.heap.size + 1, 0, none⟩) 1 1, .int .i64 6, .int .i64 7, .int .i64 300, .slice (some ⟨w.heap.size + 2, 0, none⟩) 1 1] 46) = E) := hE
  have BE : Hid (Below w.heap.size w E) := by rw [← hE]; exact exW_below w
  have RE : Hid (RdT E (some ⟨w.heap.size + 3, 0, none⟩) exT) := by rw [← hE]; exact ex_rd w
  clear HP hT hE
  go_enter Tryd.func8, Tryd.ntmps8
  go_wp2_with fail
  (try rw [HE.out])
  refine (HPL.out 9 (some ⟨w.heap.size + 3, 0, none⟩) 3 3 exT _ (HT.out.keep BE.out) RE.out rfl (by omega) (by intro t ht; simp [exT] at ht; rcases ht with rfl | rfl | rfl <;> simp)).mono ?_
  rintro e w1 hpp
  obtain ⟨a1, n1, c1, a2, n2, c2, rfl, h1, h2, ht, hv, b1⟩ := hpp.yes ex_std
  rw [ex_T] at h1 ht
  rw [ex_V] at h2 hv
  obtain rfl : 2 = n1 := h1
  obtain rfl : 5 = n2 := h2
  have B1 : Hid (Below w.heap.size w w1) := BE.out.trans (b1.mono BE.out.size)
  have RT := ht.rd (by intro t ht x hx; simp at ht; rcases ht with rfl | rfl <;> simp at hx <;> omega)
  obtain ⟨g, o, la, lk, rfl, q0, q1, q2, q3, _⟩ := RT 0 (by simp)
  obtain ⟨g', o', la', lk', e', r0, r1, r2, r3, _⟩ := RT 1 (by simp)
  cases e'
  have RV := hv.rd
  have HRV : Hid (RdV w1 a2 [⟨304, 256, 24⟩, ⟨376, 280, 24⟩, ⟨1024, 304, 24⟩, ⟨256, 0, 256⟩, ⟨1536, 256, 512⟩]) := RV
  obtain ⟨gv, ov, rfl, _, s0, s1, s2⟩ := RV 2 (by simp)
  simp only [Nat.zero_mul, Nat.add_zero, Nat.one_mul, List.getElem_cons_zero, List.getElem_cons_succ, List.length_cons, List.length_nil, Nat.zero_add, Nat.reduceAdd, Nat.reduceMul] at q3 r0 s0 s1 s2
  have ZZ : Hid (whereI 1024 [⟨304, 256, 24⟩, ⟨376, 280, 24⟩, ⟨1024, 304, 24⟩, ⟨256, 0, 256⟩, ⟨1536, 256, 512⟩] = 48) := by show _ = _; decide +kernel
  have OKM : Hid (∀ m ∈ ([⟨304, 256, 24⟩, ⟨376, 280, 24⟩, ⟨1024, 304, 24⟩, ⟨256, 0, 256⟩, ⟨1536, 256, 512⟩] : List Mv), m.Ok) := by
    intro m hm
    simp at hm
    rcases hm with rfl | rfl | rfl | rfl | rfl <;> (unfold Mv.Ok; simp)
  clear hpp ht hv b1 RT RV q0 q1 q2 r1 r2 r3
  go_wp2_with (go_at_call 16; refine (where_any (some ⟨gv, ov, none⟩) 5 c2 _ 1024 _ HRV.out rfl (by omega) OKM.out (by omega) (by omega) 48 ZZ.out).mono ?_; rintro e w2 ⟨rfl, b2⟩; have B2 : Hid (Below w.heap.size w w2) := B1.out.trans (b2.mono B1.out.size); clear b2)
  go_ret
  exact ⟨rfl, B2.out⟩
end Go.Proofs.YtbnmbkohmmiamaaDoor
