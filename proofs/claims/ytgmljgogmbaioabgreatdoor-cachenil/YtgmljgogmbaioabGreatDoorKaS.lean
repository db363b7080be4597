/- What Clone, Kept and New do. -/
import Derived.Test.YtgmljgogmbaioabGreatDoorKaR
namespace Go.Proofs.YtgmljgogmbaioabGreatDoor
open Go.RowKit
set_option linter.unusedVariables false
set_option maxRecDepth 4000

theorem clonei_nil (n c : Nat) (w : World) :
    Calls Tryz.prog 29 #[.slice none n c] w fun e w' => e = .returned (.slice none 0 0) ∧ w = w' := by
  have q : ∀ (w : World) (a : Option Addr) (n c n' c' : Nat), (binOp .eql 32 (.slice a n c) (.slice none n' c')).run Tryz.prog w = .ok (.bool a.isNone) w := fun w a n c n' c' => Lib.run_eql_slice_nil w _ _ a n c n' c' Tryz.underlying32
  go_enter Tryz.func29, Tryz.ntmps29
  go_wp2
  go_ret
  exact ⟨rfl, rfl⟩
theorem clonei_at (ad : Addr) (c : Nat) (l : List Int) (w : World) (hB : IsI w (some ad) l) (hlen : l.length ≤ 17592186044416) :
    Calls Tryz.prog 29 #[.slice (some ad) l.length c] w fun e w' => ∃ a' c', e = .returned (.slice a' l.length c') ∧ OwnsI w' w.heap.size a' l c' ∧ Below w.heap.size w w' := by
  have q : ∀ (w : World) (a : Option Addr) (n c n' c' : Nat), (binOp .eql 32 (.slice a n c) (.slice none n' c')).run Tryz.prog w = .ok (.bool a.isNone) w := fun w a n c n' c' => Lib.run_eql_slice_nil w _ _ a n c n' c' Tryz.underlying32
  obtain ⟨a', c', w', hrun, o, _, b⟩ := appi_run w ad l c hB hlen
  have O : Hid (OwnsI w' w.heap.size a' l c') := o
  have B : Hid (Below w.heap.size w w') := b
  clear hB o b
  go_enter Tryz.func29, Tryz.ntmps29
  go_wp2_with (at_builtin; refine wpList_runi rfl rfl _ _ rfl _ _ _ _ rfl rfl hrun ?_)
  go_ret
  exact ⟨a', c', rfl, O.out, B.out⟩
/-- Clone of numbers. -/
theorem clonei_any (a : Option Addr) (c n : Nat) (l : List Int) (w : World) (hn : n = l.length) (hB : IsI w a l) (hnil : a = none → l = [] ∧ c = 0) (hlen : l.length ≤ 17592186044416) :
    Calls Tryz.prog 29 #[.slice a n c] w fun e w' => ∃ a' c', e = .returned (.slice a' l.length c') ∧ OwnsI w' w.heap.size a' l c' ∧ Below w.heap.size w w' := by
  subst hn
  rcases a with _ | ad
  · obtain ⟨rfl, rfl⟩ := hnil rfl
    refine (clonei_nil _ _ w).mono ?_
    rintro e w' ⟨rfl, rfl⟩
    exact ⟨none, 0, rfl, ownsI_none _ _, Below.refl _ _⟩
  · exact clonei_at ad c l w hB hlen

theorem VAt.isI {w : World} {S : Nat → Prop} {a : Option Addr} {l : List Nat} {cap : Nat} (h : VAt w S 3 a (l.map numV) cap) (hb : ∀ x ∈ l, x ≤ 1000000000) : IsI w a (l.map Int.ofNat) := by
  refine ⟨fun x hx => ?_, ?_⟩
  · obtain ⟨y, hy, rfl⟩ := List.mem_map.1 hx
    have := hb y hy
    show -9223372036854775808 ≤ ((y : Nat) : Int) ∧ ((y : Nat) : Int) ≤ 9223372036854775807
    omega
  · rcases l with _ | ⟨y, l⟩
    · exact .inl rfl
    · obtain ⟨g, rfl, _, hg, _⟩ := h.at 0 (by simp)
      refine .inr ⟨g, 0, rfl, hg, fun i hi => ?_⟩
      obtain ⟨g', e, _, _, hc, _⟩ := h.at i (by simpa using hi)
      cases e
      rw [Nat.zero_add, hc]
      have hi' : i < (y :: l).length := by simpa using hi
      simp only [List.getElem_map, numV, List.getD, List.getElem?_map, List.getElem?_eq_getElem hi', Option.map_some, Option.getD_some]
      rfl
theorem VAt.nilOf {w : World} {S : Nat → Prop} {t : TypeId} {a : Option Addr} {l : List Value} {cap : Nat} (h : VAt w S t a l cap) : a = none → l = [] ∧ cap = 0 := fun e => by
  rcases h with ⟨_, h1, h2⟩ | ⟨g, cur, h1, _⟩
  · exact ⟨h1, h2⟩
  · rw [e] at h1; cases h1
/-- What a worker keeps of a class, as Kept tells it. -/
def keptI (W : Nat) (v c : Int) (m : List Sg) : List Int := if 0 ≤ v ∧ v < (W : Int) ∧ 0 ≤ c ∧ c < 7 then (keptM v.toNat c.toNat m).map Int.ofNat else []
set_option maxHeartbeats 1000000 in
theorem kkept_any (L : Nat → Nat) (cb P W : Nat) (m : List Sg) (v c : Int) (w : World) (h : Ca w L cb P W m) (ho : Okc P W m) (l : List Int) (hl : keptI W v c m = l) :
    Calls Tryz.prog 10 #[.pointer (some ⟨cb, 0, none⟩), .int .i64 v, .int .i64 c] w fun e w' => ∃ a' c', e = .returned (.slice a' l.length c') ∧ OwnsI w' w.heap.size a' l c' ∧ Below w.heap.size w w' := by
  obtain ⟨fb, hb, a, cap, ps, sh, hC⟩ := h
  have HC : Hid (Cm w L cb fb hb a cap ps sh P W (pgF m) m (Kof m)) := hC
  have hW := ho.w1
  have c2 := hC.cell2
  by_cases hw : 0 ≤ v ∧ v < (W : Int)
  · have HW : Hid (decide (0 ≤ v ∧ v < (W : Int)) = true) := decide_eq_true hw
    by_cases hc0 : 0 ≤ c
    · by_cases hc7 : c < 7
      · obtain ⟨u, rfl⟩ : ∃ u : Nat, v = (u : Int) := ⟨v.toNat, by omega⟩
        obtain ⟨k, rfl⟩ : ∃ k : Nat, c = (k : Int) := ⟨c.toNat, by omega⟩
        have hlk : (keptM u k m).map Int.ofNat = l := by rw [← hl]; unfold keptI; rw [if_pos ⟨hw.1, hw.2, hc0, hc7⟩, Int.toNat_natCast, Int.toNat_natCast]
        obtain ⟨ak, ck, k1, k2, k3⟩ := hC.kept u k (by omega) (by omega)
        have hbd : ∀ x ∈ Kof m u k, x ≤ 1000000000 := fun x hx => by
          obtain ⟨z, hz⟩ := mem_keptM.1 hx
          have := hz.bound ho.fit
          have := ho.p1
          omega
        have hI := k3.isI hbd
        rw [show (Kof m u k).map Int.ofNat = l from hlk] at hI
        have HI : Hid (IsI w ak l) := hI
        have hlen : (Kof m u k).length = l.length := by rw [← hlk, List.length_map]; rfl
        have HN : Hid (ak = none → l = [] ∧ ck = 0) := fun e => by
          obtain ⟨h1, h2⟩ := k3.nilOf e
          refine ⟨List.eq_nil_of_length_eq_zero ?_, h2⟩
          rw [← hlen]
          have := congrArg List.length h1
          simpa using this
        have hbig : l.length ≤ 17592186044416 := by rw [← hlen]; have := (Kof_ok ho u k).2; omega
        rw [hlen] at k1
        obtain ⟨n, hn⟩ : ∃ n, l.length = n := ⟨_, rfl⟩
        have EN : Hid (n = l.length) := hn.symm
        rw [hn] at k1 hbig
        have hw' : (u : Int) < (W : Int) := hw.2
        have hw0 : (0 : Int) ≤ (u : Int) := hw.1
        have hc7n : ¬ ((7 : Int) ≤ (k : Int)) := by omega
        have hc0n : ¬ ((k : Int) < 0) := by omega
        clear hC k3 hI hlen hlk hl hbd hn ho
        go_enter Tryz.func10, Tryz.ntmps10
        go_wp2_with (go_at_call 15; refine (khasW_any L cb fb hb a cap ps sh P W _ m _ (u : Int) _ HC.out hW).mono ?_; rw [HW.out]; rintro e w' ⟨rfl, rfl⟩)
        refine (clonei_any ak ck n l _ EN.out HI.out HN.out (by rw [← EN.out]; exact hbig)).mono ?_
        rintro e w1 ⟨a', c', rfl, o1, b1⟩
        have O1 : Hid (OwnsI w1 w.heap.size a' l c') := o1
        have B1 : Hid (Below w.heap.size w w1) := b1
        clear o1 b1
        go_wp2
        go_ret
        exact ⟨a', c', rfl, O1.out, B1.out⟩
      · have hl0 : l = [] := by rw [← hl]; unfold keptI; rw [if_neg (by omega)]
        subst hl0
        have hc7n : (7 : Int) ≤ c := by omega
        have hc0n : ¬ (c < 0) := by omega
        clear hC hl ho
        go_enter Tryz.func10, Tryz.ntmps10
        go_wp2_with (go_at_call 15; refine (khasW_any L cb fb hb a cap ps sh P W _ m _ v _ HC.out hW).mono ?_; rw [HW.out]; rintro e w' ⟨rfl, rfl⟩)
        go_ret
        exact ⟨none, 0, rfl, ownsI_none _ _, Below.refl _ _⟩
    · have hl0 : l = [] := by rw [← hl]; unfold keptI; rw [if_neg (by omega)]
      subst hl0
      have hc0n : c < 0 := by omega
      clear hC hl ho
      go_enter Tryz.func10, Tryz.ntmps10
      go_wp2_with (go_at_call 15; refine (khasW_any L cb fb hb a cap ps sh P W _ m _ v _ HC.out hW).mono ?_; rw [HW.out]; rintro e w' ⟨rfl, rfl⟩)
      go_ret
      exact ⟨none, 0, rfl, ownsI_none _ _, Below.refl _ _⟩
  · have HW : Hid (decide (0 ≤ v ∧ v < (W : Int)) = false) := decide_eq_false hw
    have hl0 : l = [] := by rw [← hl]; unfold keptI; rw [if_neg (by omega)]
    subst hl0
    clear hC hl ho
    go_enter Tryz.func10, Tryz.ntmps10
    go_wp2_with (go_at_call 15; refine (khasW_any L cb fb hb a cap ps sh P W _ m _ v _ HC.out hW).mono ?_; rw [HW.out]; rintro e w' ⟨rfl, rfl⟩)
    go_ret
    exact ⟨none, 0, rfl, ownsI_none _ _, Below.refl _ _⟩
end Go.Proofs.YtgmljgogmbaioabGreatDoor
