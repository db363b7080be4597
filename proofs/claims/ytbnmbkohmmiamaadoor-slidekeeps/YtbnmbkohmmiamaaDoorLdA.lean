/- The walk of the law SlideAgain. -/
import Derived.Test.YtbnmbkohmmiamaaDoorLcB
namespace Go.Proofs.YtbnmbkohmmiamaaDoor
open Go.RowKit
set_option linter.unusedVariables false

theorem planT_num {P : Nat} {m : List Sn} {F : Nat → Nat → Bool} (h : Std P m) : ∀ t ∈ planT m F, (-9223372036854775808 ≤ t.p ∧ t.p ≤ 9223372036854775807) ∧ ∀ x ∈ t.l, -9223372036854775808 ≤ x ∧ x ≤ 9223372036854775807 := by
  intro t ht
  rw [planT_kept] at ht
  obtain ⟨i, hi, rfl⟩ := List.mem_map.1 ht
  obtain ⟨h1, h2⟩ := keepL_mem.1 hi
  have he := (end_le h (clsF m F 7) i (by omega)).1 i h1 (Nat.le_refl _)
  have ht := h.top i h1
  have hm := h.most
  refine ⟨?_, fun x hx => ?_⟩
  · show -9223372036854775808 ≤ ((endU m (clsF m F 7) i : Nat) : Int) ∧ ((endU m (clsF m F 7) i : Nat) : Int) ≤ 9223372036854775807
    omega
  · have hx : x ∈ lsL (clsF m F 7 i) (sn m i).sl := hx
    rw [lsL_N] at hx
    obtain ⟨y, hy, rfl⟩ := List.mem_map.1 hx
    have := ((lsN_mem _ _ _).1 hy).1
    have := (h.ok i h1).facts.2.1
    omega
set_option maxRecDepth 20000 in
set_option maxHeartbeats 4000000 in
theorem slideAgain_any (HP : PlanC) (P : Int) (a : Option Addr) (n cap : Nat) (ts : List Td) (w : World) (hT : Tabs w) (h : RdT w a ts) (hn : ts.length = n) (hn9 : n ≤ 9223372036854775807) (hr : ∀ t ∈ ts, -9223372036854775808 ≤ t.p ∧ t.p ≤ 9223372036854775807) :
    Calls Tryd.prog 7 #[.int .i64 P, .slice a n cap] w fun e w' => e = .returned (.bool true) ∧ Below w.heap.size w w' := by
  have HPL : Hid PlanC := HP
  have HT : Hid (Tabs w) := hT
  have H : Hid (RdT w a ts) := h
  have HN : Hid (ts.length = n) := hn
  have HRG : Hid (∀ t ∈ ts, -9223372036854775808 ≤ t.p ∧ t.p ≤ 9223372036854775807) := hr
  clear HP hT h hn hr
  go_enter Tryd.func7, Tryd.ntmps7
  go_wp2_with fail
  refine (alive_any HPL.out _ HT.out).mono ?_
  rintro e w1 ⟨rfl, b1⟩
  have B1 : Hid (Below w.heap.size w w1) := b1
  clear b1
  by_cases hbig : 300 < n
  · have hb : (300 : Int) < (n : Int) := by omega
    go_wp2
    go_ret
    exact ⟨rfl, B1.out⟩
  have hb : ¬ ((300 : Int) < (n : Int)) := by omega
  have hn1 : n ≤ 300 := by omega
  go_wp2_with fail
  refine (HPL.out P a n cap ts _ (HT.out.keep B1.out) (H.out.keep B1.out) HN.out (by omega) HRG.out).mono ?_
  rintro e w2 hpp
  cases hstd : stdB P ts with
  | false =>
    obtain ⟨rfl, b2⟩ := hpp.no hstd
    have B2 : Hid (Below w.heap.size w w2) := B1.out.trans (b2.mono B1.out.size)
    have HS : Hid (stdB P ts = false) := hstd
    clear hpp b2 hstd
    go_wp2_with (go_at_call 12; refine (lright_any P a n cap ts _ (HT.out.keep B2.out) (H.out.keep B2.out) HN.out (by omega) HRG.out false HS.out).mono ?_; rintro e w3 ⟨rfl, b3⟩; have B3 : Hid (Below w.heap.size w w3) := B2.out.trans (b3.mono B2.out.size); clear b3)
    go_ret
    exact ⟨rfl, B3.out⟩
  | true =>
    obtain ⟨a1, n1, c1, a2, n2, c2, rfl, h1, h2, ht, hv, b2⟩ := hpp.yes hstd
    have hP : 1 ≤ P ∧ P ≤ 4096 := by
      unfold stdB at hstd
      rw [Bool.and_eq_true] at hstd
      exact of_decide_eq_true hstd.1
    obtain ⟨P, rfl⟩ : ∃ p : Nat, P = p := ⟨P.toNat, by omega⟩
    obtain ⟨hS, hI⟩ := std_of hstd
    have hIc := inF_cls hI (fun i hi => (hS.ok i hi).c7)
    have hl := std_len hS
    have hpl := plan_len hS (FT ts)
    rw [List.length_map] at hl hpl
    rw [h2, HN.out] at hpl
    obtain ⟨g1, g2⟩ := plan_again hIc
    have hS2 := aft_std (P := P) hS hIc (by omega)
    have nums := planT_num (F := FT ts) hS
    have dn := plan_dn hS (FT ts)
    obtain ⟨T, hTT⟩ : ∃ T, planT (ts.map snT) (FT ts) = T := ⟨_, rfl⟩
    obtain ⟨V, hVV⟩ : ∃ V, planV (ts.map snT) (FT ts) = V := ⟨_, rfl⟩
    unfold aftM aftF at g1 g2
    rw [hTT] at h1 ht hS2 nums g1 g2
    rw [hVV] at h2 hv dn
    have hTl : n1 ≤ 300 := by
      rw [← h1, ← hTT, planT_kept, List.length_map]
      have := keepL_len (ts.map snT) (clsF (ts.map snT) (FT ts) 7) (ts.map snT).length
      rw [List.length_map] at this
      have hNN := HN.out
      unfold kept
      rw [List.length_map]
      omega
    have B2 : Hid (Below w.heap.size w w2) := B1.out.trans (b2.mono B1.out.size)
    have RT : Hid (RdT w2 a1 T) := ht.rd (fun t ht x hx => (nums t ht).2 x hx)
    have RV : Hid (RdV w2 a2 V) := hv.rd
    have N1 : Hid (T.length = n1) := h1
    have N2 : Hid (V.length = n2) := h2
    have NR : Hid (∀ t ∈ T, -9223372036854775808 ≤ t.p ∧ t.p ≤ 9223372036854775807) := fun t ht => (nums t ht).1
    have DN : Hid (∀ v ∈ V, v.Dn (256 * P)) := dn
    have S2 : Hid (stdB (P : Int) T = true) := hS2
    have G1 : Hid (planV (T.map snT) (FT T) = []) := g1
    have G2 : Hid (planT (T.map snT) (FT T) = T) := g2
    have NUMS : Hid (∀ t ∈ T, ∀ x ∈ t.l, -9223372036854775808 ≤ x ∧ x ≤ 9223372036854775807) := fun t ht => (nums t ht).2
    have hn2 : n2 ≤ 33900 := by omega
    clear hpp b2 hstd ht hv h1 h2 nums dn g1 g2 hS hI hIc hl hpl hS2 hTT hVV hP
    go_wp2_with fail
    go_loopw [33] (fun iv wr => ∃ i : Nat, i ≤ n2 ∧ iv = .int .i64 (i : Nat) ∧ Below w2.heap.size w2 wr) (fun iv _ => n2 - lenW iv)
    case atStart => exact ⟨0, Nat.zero_le _, rfl, Below.refl _ _⟩
    case round =>
      obtain ⟨i, hi, rfl, hb3⟩ := hrel
      rename World => wr
      have BR : Hid (Below w2.heap.size w2 wr) := hb3
      clear hb3
      by_cases hin : i < n2
      · have hiV : i < V.length := by rw [N2.out]; exact hin
        obtain ⟨g, o, rfl, _, c0, c1', c2'⟩ := (RV.out.keep BR.out) i hiV
        obtain ⟨d1, d2, d3, d4⟩ := DN.out V[i] (List.getElem_mem hiV)
        obtain ⟨v, hv⟩ : ∃ v, V[i] = v := ⟨_, rfl⟩
        rw [hv] at c0 c1' c2' d1 d2 d3
        obtain ⟨fr, tt, ln⟩ := v
        simp only at c0 c1' c2' d1 d2 d3
        have e1 : ¬ (fr ≤ tt) := by omega
        have e2 : ¬ (tt < 0) := by omega
        have e3 : ¬ (ln < 1) := by omega
        have i0 : (i : Int) < (n2 : Int) := by omega
        have BA : Hid (Below w2.heap.size w2 (wr.alloc (.cells #[.int .i64 fr, (.int .i64 tt), .int .i64 ln] 35))) := BR.out.alloc BR.out.size _
        clear hv d4
        go_wp2
        go_roundw
        case rel => exact ⟨i + 1, by omega, by congr 1, BA.out⟩
        case measure => simp [lenW]; omega
      · obtain rfl : i = n2 := by omega
        have B3 : Hid (Below w.heap.size w wr) := B2.out.trans (BR.out.mono B2.out.size)
        have R3 : Hid (RdT wr a1 T) := RT.out.keep BR.out
        go_wp2_with fail
        refine (HPL.out (P : Int) a1 n1 c1 T _ (HT.out.keep B3.out) R3.out N1.out (by omega) NR.out).mono ?_
        rintro e w4 hpp
        obtain ⟨a3, n3, c3, a4, n4, c4, rfl, h3, h4, ht4, hv4, b4⟩ := hpp.yes S2.out
        rw [G2.out] at h3 ht4
        rw [G1.out] at h4
        obtain rfl : n1 = n3 := by rw [← h3, N1.out]
        obtain rfl : 0 = n4 := h4
        have B4 : Hid (Below w.heap.size w w4) := B3.out.trans (b4.mono B3.out.size)
        have R4 : Hid (RdT w4 a3 T) := ht4.rd NUMS.out
        have R5 : Hid (RdT w4 a1 T) := R3.out.keep b4
        clear hpp ht4 hv4 b4 h3
        go_wp2_with (go_at_call 13; refine (rall_rd a3 a1 n1 c3 n1 c1 T _ R4.out R5.out N1.out N1.out (by rw [N1.out]; omega)).mono ?_; rintro e w5 ⟨rfl, b5⟩; have B5 : Hid (Below w.heap.size w w5) := B4.out.trans (b5.mono B4.out.size); clear b5)
        go_ret
        exact ⟨rfl, B5.out⟩
end Go.Proofs.YtbnmbkohmmiamaaDoor
