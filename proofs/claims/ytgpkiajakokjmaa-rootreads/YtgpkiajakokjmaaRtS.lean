/- Layer 20: the walk of RootOne. -/
import Derived.Test.YtgpkiajakokjmaaRtQ
namespace Go.Proofs.Ytgpkiajakokjmaa
open Go.RowKit
set_option linter.unusedVariables false
set_option maxRecDepth 4000

theorem numE_in {t : Int} {n : Nat} : ∀ a ∈ numE t n, a.t = t ∧ 0 ≤ a.i ∧ a.i ≤ (n : Nat) := by
  intro a ha
  obtain ⟨i, hi, rfl⟩ := List.mem_map.1 ha
  have := List.mem_range.1 hi
  exact ⟨rfl, by simp, by simp; omega⟩
theorem ok_in {pg : Int} (hpg : pg ≤ 4096) : ∀ (A es : List Ent) (nx : Int), 0 ≤ nx → (∀ a ∈ A, (a.t = 1 ∨ a.t = 2) ∧ 0 ≤ a.i ∧ a.i ≤ 20000) → okE pg nx A es = true → ∀ e ∈ es, (1 ≤ e.t ∧ e.t ≤ 3) ∧ 0 ≤ e.i ∧ e.i ≤ 20000
  | [], [], _, _, _, _ => fun e he => by cases he
  | [], x :: es, nx, h0, hA, h => fun e he => by
    rw [okE, Bool.and_eq_true, decide_eq_true_eq] at h
    obtain ⟨⟨h3, h4, h5⟩, h6⟩ := h
    rcases List.mem_cons.1 he with rfl | he
    · omega
    · exact ok_in hpg [] es (x.i + 1) (by omega) (fun a ha => by cases ha) h6 e he
  | a :: A, [], _, _, _, h => by cases h
  | a :: A, x :: es, nx, h0, hA, h => fun e he => by
    rw [okE, Bool.and_eq_true, decide_eq_true_eq] at h
    obtain ⟨⟨h3, h4⟩, h6⟩ := h
    have ha := hA a (List.mem_cons_self ..)
    rcases List.mem_cons.1 he with rfl | he
    · omega
    · exact ok_in hpg A es nx h0 (fun a ha => hA a (List.mem_cons_of_mem _ ha)) h6 e he
theorem right_in {x : Rt} {s : Int} (hs : s ≤ 9223372036854775807) (h : rightR x s = true) : EI x.es := by
  obtain ⟨g, ok, pl, el, _⟩ := right_parts h
  have LS : lastS s ≤ 9223372036854775807 := by unfold lastS; split <;> omega
  obtain ⟨K, _, hK2, hK3⟩ := cnt_small (n := x.k) (per := 16) (by omega) (by omega)
  obtain ⟨R, _, hR2, hR3⟩ := cnt_small (n := x.r) (per := 32) (by omega) (by omega)
  have q := ok_in (pg := x.p) (by omega) (aheadE x.k x.r) x.es 0 (by omega) (fun a ha => by
    unfold aheadE at ha
    rw [hK2, hR2] at ha
    rcases List.mem_append.1 ha with ha | ha
    · have := numE_in a ha; omega
    · have := numE_in a ha; omega) ok
  intro e he
  have h1 := q e he
  have h2 := pl e he
  unfold inI
  omega
theorem read_zero20 {l : List Int} {s : Int} {x : Rt} {E : Int} (h : readR l s = (x, E)) (hE : E ≠ 0) : x = rtz := by
  unfold readR at h
  split at h
  · simp only [Prod.mk.injEq] at h
    exact absurd h.2.symm hE
  · simp only [Prod.mk.injEq] at h
    exact h.1.symm
set_option maxRecDepth 20000 in
set_option maxHeartbeats 8000000 in
/-- RootOne. -/
theorem rootOne_any (a : Option Addr) (cap : Nat) (l : List Int) (s : Int) (w : World) (hI : IsB w a l) (hm : l.length ≤ 140737488355328) (ha : a = none → l = []) (hs : s ≤ 9223372036854775807) :
    Calls Try.prog 5 #[.slice a l.length cap, .int .i64 s] w fun e w' => e = .returned (.bool true) ∧ Below w.heap.size w w' := by
  have HI : Hid (IsB w a l) := hI
  have HA : Hid (a = none → l = []) := ha
  obtain ⟨x, E, hR⟩ : ∃ x E, readR l s = (x, E) := ⟨_, _, rfl⟩
  have HR : Hid (readR l s = (x, E)) := hR
  have AB := hI.1
  clear hI ha hR
  go_enter Try.func5, Try.ntmps5
  go_wp2_with (go_at_call 8; refine (alive20 _).mono ?_; rintro e w1 ⟨rfl, b1⟩; have B1 : Hid (Below w.heap.size w w1) := b1; clear b1)
  go_wp2_with fail
  have CR : Hid (Calls Try.prog 17 #[.slice a l.length cap, .int .i64 s] w1 fun e w' => ∃ a c, e = .returned (.tuple #[.agg #[.int .i64 x.b, .int .i64 x.p, .int .i64 x.w, .int .i64 x.h, .int .i64 x.r, .int .i64 x.k, .slice a x.es.length c], .int .i64 E]) ∧ Ow w' w1.heap.size a x.es c ∧ Below w1.heap.size w1 w') := by
    have q := cread_any a cap l s w1 (HI.out.keep B1.out) hm HA.out hs
    unfold RdPost at q
    rw [HR.out] at q
    exact q
  refine Calls.mono CR.out ?_
  rintro e w2 ⟨a2, k2, rfl, o2, b2⟩
  obtain ⟨F, hF, rF, bF⟩ := rtbox w2 x (.slice a2 x.es.length k2) 26
  have WF : Hid (IsW F a2 x.es) := o2.isW.keep bF
  have BF : Hid (Below w.heap.size w F) := (B1.out.trans (b2.mono B1.out.size)).trans (bF.mono (Nat.le_trans B1.out.size b2.size))
  obtain ⟨nf, hnf⟩ : ∃ nf, w2.heap.size = nf := ⟨_, rfl⟩
  rw [hnf] at rF
  have HNF : Hid (w2.heap.size = nf) := hnf
  by_cases hE : E = 0
  · have HR2 := HR.out
    subst hE
    obtain ⟨g1, g2⟩ := rread_good AB HR2
    obtain ⟨_, _, _, el, _⟩ := right_parts g1
    have EIN : Hid (EI x.es) := right_in hs g1
    have gg := (right_parts g1).1
    have BO : Hid (bodyO x s = (l, 0)) := by show _ = _; rw [bodyO, if_pos g1, g2]
    have RT : Hid (rightR x s = true) := g1
    have CB : Hid (∀ w : World, IsW w a2 x.es → Calls Try.prog 11 #[.agg #[.int .i64 x.b, .int .i64 x.p, .int .i64 x.w, .int .i64 x.h, .int .i64 x.r, .int .i64 x.k, .slice a2 x.es.length k2], .int .i64 s] w fun e w' => ∃ a' c, e = .returned (.tuple #[.slice a' l.length c, .int .i64 0]) ∧ OwnsB w' w.heap.size a' l c ∧ Below w.heap.size w w') := fun w hw => by
      have q := cbody_any x s a2 k2 w hw EIN.out (by omega) hs (by omega) (by omega)
      rw [BO.out] at q
      exact q
    have CT : Hid (∀ w : World, IsW w a2 x.es → Calls Try.prog 14 #[.agg #[.int .i64 x.b, .int .i64 x.p, .int .i64 x.w, .int .i64 x.h, .int .i64 x.r, .int .i64 x.k, .slice a2 x.es.length k2], .int .i64 s] w fun e w' => e = .returned (.bool true) ∧ Below w.heap.size w w') := fun w hw => by
      have q := cright_any x s a2 k2 w hw EIN.out (by omega) hs (by omega) (by omega)
      rw [RT.out] at q
      exact q
    have ABH : Hid (AllB l) := AB
    obtain ⟨xb, p, xw, xh, r, k, es⟩ := x
    simp only at hF rF CB CT WF ⊢
    obtain ⟨M, hM⟩ : ∃ M, es.length = M := ⟨_, rfl⟩
    rw [hM] at hF rF CB CT ⊢
    have HF : Hid _ := hF
    have RF : Hid _ := rF
    obtain ⟨c0, c1, c2, c3, c4, c5, c6⟩ := seven rF
    clear hF rF bF o2 b2 hnf g1 g2 el gg CR HR2 AB hM
    go_upto_region 4 with (fail)
    rw [HF.out]
    try rw [HNF.out]
    go_wp2_with fail
    refine Calls.mono (CB.out _ WF.out) ?_
    rintro e w3 ⟨a3, k3, rfl, o3, b3⟩
    have I3 : Hid (IsB w3 a3 l) := ownsB_isB ABH.out o3
    have W3 : Hid (IsW w3 a2 es) := WF.out.keep b3
    have B3 : Hid (Below w.heap.size w w3) := BF.out.trans (b3.mono BF.out.size)
    have r3 : w3.heap[nf]? = some (.cells #[.int .i64 xb, .int .i64 p, .int .i64 xw, .int .i64 xh, .int .i64 r, .int .i64 k, .slice a2 M k2] 26 (0, 0)) := by rw [b3.block _ (hlt RF.out)]; exact RF.out
    clear o3 b3 c0 c1 c2 c3 c4 c5 c6
    obtain ⟨c0, c1, c2, c3, c4, c5, c6⟩ := seven r3
    clear r3
    go_wp2_with fail
    refine Calls.mono (CT.out _ W3.out) ?_
    rintro e w4 ⟨rfl, b4⟩
    have B4 : Hid (Below w.heap.size w w4) := B3.out.trans (b4.mono B3.out.size)
    have I4 : Hid (IsB w4 a3 l) := I3.out.keep b4
    clear b4
    go_wp2_with fail
    refine (same_true a3 a _ _ k3 cap l _ I4.out (HI.out.keep B4.out) rfl rfl).mono ?_
    rintro e w5 ⟨rfl, rfl⟩
    go_wp2
    go_ret
    exact ⟨rfl, B4.out⟩
  · have eb : (E != 0) = true := by rw [bne_iff_ne]; exact hE
    obtain rfl := read_zero20 HR.out hE
    simp only [rtz, List.length_nil] at hF rF ⊢
    have HF : Hid _ := hF
    obtain ⟨c0, c1, c2, c3, c4, c5, c6⟩ := seven rF
    clear hF rF bF o2 b2 hnf CR WF
    go_upto_region 4 with (fail)
    rw [HF.out]
    try rw [HNF.out]
    go_wp2
    go_ret
    exact ⟨rfl, BF.out⟩
end Go.Proofs.Ytgpkiajakokjmaa
