/- What Flush, Kept and Free do. -/
import Derived.Test.YtgmljgogmbaioaaGreatDoorKaQ
namespace Go.Proofs.YtgmljgogmbaioaaGreatDoor
open Go.RowKit
set_option linter.unusedVariables false
set_option maxRecDepth 4000

set_option maxHeartbeats 1000000 in
theorem kflush_any (L : Nat → Nat) (cb P W : Nat) (m : List Sg) (v : Int) (w : World) (h : Ca w L cb P W m) (ho : Okc P W m) (r : Nat) (m' : List Sg) (hr : (if 0 ≤ v ∧ v < (W : Int) then (0, flushM v.toNat m) else (2, m)) = (r, m')) :
    Calls Tryz.prog 36 #[.pointer (some ⟨cb, 0, none⟩), .int .i64 v] w fun e w' => e = .returned (.int .i64 (r : Nat)) ∧ Left L w cb P W m' w' := by
  obtain ⟨fb, hb, a, cap, ps, sh, hC⟩ := h
  have HC : Hid (Cm w L cb fb hb a cap ps sh P W (pgF m) m (Kof m)) := hC
  have HO : Hid (Okc P W m) := ho
  have hW := ho.w1
  by_cases hw : 0 ≤ v ∧ v < (W : Int)
  · rw [if_pos hw] at hr
    have HW : Hid (decide (0 ≤ v ∧ v < (W : Int)) = true) := decide_eq_true hw
    obtain ⟨u, rfl⟩ : ∃ u : Nat, v = (u : Int) := ⟨v.toNat, by omega⟩
    rw [Int.toNat_natCast] at hr
    obtain ⟨rfl, rfl⟩ : 0 = r ∧ flushM u m = m' := by simpa using hr
    have hu : u < W := by omega
    have hu' : (u : Int) < (W : Int) := by omega
    have hu0 : (0 : Int) ≤ (u : Int) := by omega
    clear hC ho hr
    go_enter Tryz.func36, Tryz.ntmps36
    go_wp2_with (go_at_call 57; refine (khasW_any L cb fb hb a cap ps sh P W _ m _ (u : Int) _ HC.out hW).mono ?_; rw [HW.out]; rintro e w' ⟨rfl, rfl⟩)
    go_loopw [14] (fun iv wr => ∃ (k : Nat) (L' : Nat → Nat) (sh' : List Value), iv = .int .i64 (k : Nat) ∧ k ≤ 7 ∧ Cm wr L' cb fb hb a cap ps sh' P W (pgF (flushK u k m)) (flushK u k m) (Kof (flushK u k m)) ∧ Mv L w L' wr) (fun iv _ => 7 - (intOf iv).toNat)
    case atStart => exact ⟨0, L, sh, rfl, by omega, by rw [flushK_zero]; exact HC.out, Mv.refl _ _⟩
    case round =>
      obtain ⟨k, L1, sh1, rfl, hk, hC1, hM1⟩ := hrel
      rename World => wr
      obtain ⟨mk, hmk⟩ : ∃ mk, flushK u k m = mk := ⟨_, rfl⟩
      have EMK : Hid (flushK u k m = mk) := hmk
      have OK : Hid (Okc P W mk) := ⟨HO.out.p0, HO.out.p1, HO.out.w0, HO.out.w1, by rw [← hmk]; exact flushK_fit u k HO.out.fit⟩
      rw [hmk] at hC1
      have C1 : Hid (Cm wr L1 cb fb hb a cap ps sh1 P W (pgF mk) mk (Kof mk)) := hC1
      have M1 : Hid (Mv L w L1 wr) := hM1
      have c2 := hC1.cell2
      clear hC1 hM1 hmk
      by_cases hlt : k < 7
      · have hlt' : (k : Int) < 7 := by omega
        have hlen := (Kof_ok OK.out u k).2
        have ES : Hid (flushK u (k + 1) m = setsM ((Kof mk u k).drop 0) 0 mk) := by
          show _ = _
          rw [flushK_step u k HO.out.fit (flushK_fit u k HO.out.fit), EMK.out]; rfl
        have EK : Hid (Kof (setsM ((Kof mk u k).drop 0) 0 mk) = upd (Kof mk) u k ((Kof mk u k).take 0)) := kf_drop OK.out.fit 0
        go_wp2_with (go_at_call 62; refine (krel_any L1 cb fb hb a cap ps sh1 P W mk (Kof mk) u k 0 _ C1.out OK.out hu hlt (Nat.zero_le _) hlen (slots_kept (fun x hx => List.mem_of_mem_drop hx))).mono ?_; rintro e w4 ⟨rfl, L4, sh4, C4, M4⟩; rw [← EK.out] at C4; have CC4 : Hid (Cm w4 L4 cb fb hb a cap ps sh4 P W (pgF (setsM ((Kof mk u k).drop 0) 0 mk)) (setsM ((Kof mk u k).drop 0) 0 mk) (Kof (setsM ((Kof mk u k).drop 0) 0 mk))) := C4; have MM4 : Hid (Mv L1 wr L4 w4) := M4; clear C4 M4)
        go_roundw
        case rel => exact ⟨k + 1, L4, sh4, by go_num, by omega, by rw [ES.out]; exact CC4.out, M1.out.trans MM4.out⟩
        case measure => simp [intOf]; omega
      · obtain rfl : k = 7 := by omega
        go_wp2
        go_ret
        refine ⟨rfl, L1, ?_, M1.out⟩
        rw [← flushK_all u HO.out.fit, EMK.out]
        exact ⟨fb, hb, a, cap, ps, sh1, C1.out⟩
  · rw [if_neg hw] at hr
    obtain ⟨rfl, rfl⟩ : 2 = r ∧ m = m' := by simpa using hr
    have HW : Hid (decide (0 ≤ v ∧ v < (W : Int)) = false) := decide_eq_false hw
    clear hC ho hr
    go_enter Tryz.func36, Tryz.ntmps36
    go_wp2_with (go_at_call 57; refine (khasW_any L cb fb hb a cap ps sh P W _ m _ v _ HC.out hW).mono ?_; rw [HW.out]; rintro e w' ⟨rfl, rfl⟩)
    go_ret
    exact ⟨rfl, L, ⟨fb, hb, a, cap, ps, sh, HC.out⟩, Mv.refl _ _⟩
theorem kfree_any (L : Nat → Nat) (cb P W : Nat) (m : List Sg) (w : World) (h : Ca w L cb P W m) (ho : Okc P W m) :
    Calls Tryz.prog 24 #[.pointer (some ⟨cb, 0, none⟩)] w fun e w' => e = .returned (.slice (some ⟨w.heap.size, 0, none⟩) (freeM P 0 m).length (freeM P 0 m).length) ∧ Row w' w.heap.size (freeM P 0 m) ∧ Below w.heap.size w w' := by
  obtain ⟨fb, hb, a, cap, ps, sh, hC⟩ := h
  have c0 := hC.cell0
  have FR : Hid (IsR w (fun k => L k = 2) fb P (pgF m)) := hC.free
  have hP := ho.p1
  rw [free_eq ho.fit]
  clear hC ho
  go_enter Tryz.func24, Tryz.ntmps24
  go_wp2_with fail
  refine (free_any _ fb P (pgF m) _ FR.out (by omega)).mono ?_
  rintro e w1 ⟨rfl, r1, b1⟩
  have R1 : Hid (Row w1 w.heap.size (freeL (pgF m) P)) := r1
  have B1 : Hid (Below w.heap.size w w1) := b1
  obtain ⟨n, hn⟩ : ∃ n, (freeL (pgF m) P).length = n := ⟨_, rfl⟩
  have EN : Hid ((freeL (pgF m) P).length = n) := hn
  rw [hn]
  clear r1 b1 hn
  go_wp2
  go_ret
  exact ⟨by rw [EN.out]; rfl, R1.out, B1.out⟩
end Go.Proofs.YtgmljgogmbaioaaGreatDoor

/- What Clone, Kept and New do. -/
namespace Go.Proofs.YtgmljgogmbaioaaGreatDoor
open Go.RowKit
set_option linter.unusedVariables false
set_option maxRecDepth 4000

theorem clonei_nil (n c : Nat) (w : World) :
    Calls Tryz.prog 58 #[.slice none n c] w fun e w' => e = .returned (.slice none 0 0) ∧ w = w' := by
  have q : ∀ (w : World) (a : Option Addr) (n c n' c' : Nat), (binOp .eql 34 (.slice a n c) (.slice none n' c')).run Tryz.prog w = .ok (.bool a.isNone) w := fun w a n c n' c' => Lib.run_eql_slice_nil w _ _ a n c n' c' Tryz.underlying34
  go_enter Tryz.func58, Tryz.ntmps58
  go_wp2
  go_ret
  exact ⟨rfl, rfl⟩
theorem clonei_at (ad : Addr) (c : Nat) (l : List Int) (w : World) (hB : IsI w (some ad) l) (hlen : l.length ≤ 17592186044416) :
    Calls Tryz.prog 58 #[.slice (some ad) l.length c] w fun e w' => ∃ a' c', e = .returned (.slice a' l.length c') ∧ OwnsI w' w.heap.size a' l c' ∧ Below w.heap.size w w' := by
  have q : ∀ (w : World) (a : Option Addr) (n c n' c' : Nat), (binOp .eql 34 (.slice a n c) (.slice none n' c')).run Tryz.prog w = .ok (.bool a.isNone) w := fun w a n c n' c' => Lib.run_eql_slice_nil w _ _ a n c n' c' Tryz.underlying34
  obtain ⟨a', c', w', hrun, o, _, b⟩ := appi_run w ad l c hB hlen
  have O : Hid (OwnsI w' w.heap.size a' l c') := o
  have B : Hid (Below w.heap.size w w') := b
  clear hB o b
  go_enter Tryz.func58, Tryz.ntmps58
  go_wp2_with (at_builtin; refine wpList_runi rfl rfl _ _ rfl _ _ _ _ rfl rfl hrun ?_)
  go_ret
  exact ⟨a', c', rfl, O.out, B.out⟩
/-- Clone of numbers. -/
theorem clonei_any (a : Option Addr) (c n : Nat) (l : List Int) (w : World) (hn : n = l.length) (hB : IsI w a l) (hnil : a = none → l = [] ∧ c = 0) (hlen : l.length ≤ 17592186044416) :
    Calls Tryz.prog 58 #[.slice a n c] w fun e w' => ∃ a' c', e = .returned (.slice a' l.length c') ∧ OwnsI w' w.heap.size a' l c' ∧ Below w.heap.size w w' := by
  subst hn
  rcases a with _ | ad
  · obtain ⟨rfl, rfl⟩ := hnil rfl
    refine (clonei_nil _ _ w).mono ?_
    rintro e w' ⟨rfl, rfl⟩
    exact ⟨none, 0, rfl, ownsI_none _ _, Below.refl _ _⟩
  · exact clonei_at ad c l w hB hlen

theorem VAt.isI {w : World} {S : Nat → Prop} {a : Option Addr} {l : List Nat} {cap : Nat} (h : VAt w S 3 a (l.map numV) cap) (hb : ∀ x ∈ l, x ≤ 1000000000) : IsI w a (l.map Int.ofNat) := by
  refine ⟨fun x hx => ?_, ?_⟩
  · obtain ⟨y, hy, rfl⟩ := List.mem_map.1 hx
    have := hb y hy
    show -9223372036854775808 ≤ ((y : Nat) : Int) ∧ ((y : Nat) : Int) ≤ 9223372036854775807
    omega
  · rcases l with _ | ⟨y, l⟩
    · exact .inl rfl
    · obtain ⟨g, rfl, _, hg, _⟩ := h.at 0 (by simp)
      refine .inr ⟨g, 0, rfl, hg, fun i hi => ?_⟩
      obtain ⟨g', e, _, _, hc, _⟩ := h.at i (by simpa using hi)
      cases e
      rw [Nat.zero_add, hc]
      have hi' : i < (y :: l).length := by simpa using hi
      simp only [List.getElem_map, numV, List.getD, List.getElem?_map, List.getElem?_eq_getElem hi', Option.map_some, Option.getD_some]
      rfl
theorem VAt.nilOf {w : World} {S : Nat → Prop} {t : TypeId} {a : Option Addr} {l : List Value} {cap : Nat} (h : VAt w S t a l cap) : a = none → l = [] ∧ cap = 0 := fun e => by
  rcases h with ⟨_, h1, h2⟩ | ⟨g, cur, h1, _⟩
  · exact ⟨h1, h2⟩
  · rw [e] at h1; cases h1
/-- What a worker keeps of a class, as Kept tells it. -/
def keptI (W : Nat) (v c : Int) (m : List Sg) : List Int := if 0 ≤ v ∧ v < (W : Int) ∧ 0 ≤ c ∧ c < 7 then (keptM v.toNat c.toNat m).map Int.ofNat else []
set_option maxHeartbeats 1000000 in
theorem kkept_any (L : Nat → Nat) (cb P W : Nat) (m : List Sg) (v c : Int) (w : World) (h : Ca w L cb P W m) (ho : Okc P W m) (l : List Int) (hl : keptI W v c m = l) :
    Calls Tryz.prog 25 #[.pointer (some ⟨cb, 0, none⟩), .int .i64 v, .int .i64 c] w fun e w' => ∃ a' c', e = .returned (.slice a' l.length c') ∧ OwnsI w' w.heap.size a' l c' ∧ Below w.heap.size w w' := by
  obtain ⟨fb, hb, a, cap, ps, sh, hC⟩ := h
  have HC : Hid (Cm w L cb fb hb a cap ps sh P W (pgF m) m (Kof m)) := hC
  have hW := ho.w1
  have c2 := hC.cell2
  by_cases hw : 0 ≤ v ∧ v < (W : Int)
  · have HW : Hid (decide (0 ≤ v ∧ v < (W : Int)) = true) := decide_eq_true hw
    by_cases hc0 : 0 ≤ c
    · by_cases hc7 : c < 7
      · obtain ⟨u, rfl⟩ : ∃ u : Nat, v = (u : Int) := ⟨v.toNat, by omega⟩
        obtain ⟨k, rfl⟩ : ∃ k : Nat, c = (k : Int) := ⟨c.toNat, by omega⟩
        have hlk : (keptM u k m).map Int.ofNat = l := by rw [← hl]; unfold keptI; rw [if_pos ⟨hw.1, hw.2, hc0, hc7⟩, Int.toNat_natCast, Int.toNat_natCast]
        obtain ⟨ak, ck, k1, k2, k3⟩ := hC.kept u k (by omega) (by omega)
        have hbd : ∀ x ∈ Kof m u k, x ≤ 1000000000 := fun x hx => by
          obtain ⟨z, hz⟩ := mem_keptM.1 hx
          have := hz.bound ho.fit
          have := ho.p1
          omega
        have hI := k3.isI hbd
        rw [show (Kof m u k).map Int.ofNat = l from hlk] at hI
        have HI : Hid (IsI w ak l) := hI
        have hlen : (Kof m u k).length = l.length := by rw [← hlk, List.length_map]; rfl
        have HN : Hid (ak = none → l = [] ∧ ck = 0) := fun e => by
          obtain ⟨h1, h2⟩ := k3.nilOf e
          refine ⟨List.eq_nil_of_length_eq_zero ?_, h2⟩
          rw [← hlen]
          have := congrArg List.length h1
          simpa using this
        have hbig : l.length ≤ 17592186044416 := by rw [← hlen]; have := (Kof_ok ho u k).2; omega
        rw [hlen] at k1
        obtain ⟨n, hn⟩ : ∃ n, l.length = n := ⟨_, rfl⟩
        have EN : Hid (n = l.length) := hn.symm
        rw [hn] at k1 hbig
        have hw' : (u : Int) < (W : Int) := hw.2
        have hw0 : (0 : Int) ≤ (u : Int) := hw.1
        have hc7n : ¬ ((7 : Int) ≤ (k : Int)) := by omega
        have hc0n : ¬ ((k : Int) < 0) := by omega
        clear hC k3 hI hlen hlk hl hbd hn ho
        go_enter Tryz.func25, Tryz.ntmps25
        go_wp2_with (go_at_call 57; refine (khasW_any L cb fb hb a cap ps sh P W _ m _ (u : Int) _ HC.out hW).mono ?_; rw [HW.out]; rintro e w' ⟨rfl, rfl⟩)
        refine (clonei_any ak ck n l _ EN.out HI.out HN.out (by rw [← EN.out]; exact hbig)).mono ?_
        rintro e w1 ⟨a', c', rfl, o1, b1⟩
        have O1 : Hid (OwnsI w1 w.heap.size a' l c') := o1
        have B1 : Hid (Below w.heap.size w w1) := b1
        clear o1 b1
        go_wp2
        go_ret
        exact ⟨a', c', rfl, O1.out, B1.out⟩
      · have hl0 : l = [] := by rw [← hl]; unfold keptI; rw [if_neg (by omega)]
        subst hl0
        have hc7n : (7 : Int) ≤ c := by omega
        have hc0n : ¬ (c < 0) := by omega
        clear hC hl ho
        go_enter Tryz.func25, Tryz.ntmps25
        go_wp2_with (go_at_call 57; refine (khasW_any L cb fb hb a cap ps sh P W _ m _ v _ HC.out hW).mono ?_; rw [HW.out]; rintro e w' ⟨rfl, rfl⟩)
        go_ret
        exact ⟨none, 0, rfl, ownsI_none _ _, Below.refl _ _⟩
    · have hl0 : l = [] := by rw [← hl]; unfold keptI; rw [if_neg (by omega)]
      subst hl0
      have hc0n : c < 0 := by omega
      clear hC hl ho
      go_enter Tryz.func25, Tryz.ntmps25
      go_wp2_with (go_at_call 57; refine (khasW_any L cb fb hb a cap ps sh P W _ m _ v _ HC.out hW).mono ?_; rw [HW.out]; rintro e w' ⟨rfl, rfl⟩)
      go_ret
      exact ⟨none, 0, rfl, ownsI_none _ _, Below.refl _ _⟩
  · have HW : Hid (decide (0 ≤ v ∧ v < (W : Int)) = false) := decide_eq_false hw
    have hl0 : l = [] := by rw [← hl]; unfold keptI; rw [if_neg (by omega)]
    subst hl0
    clear hC hl ho
    go_enter Tryz.func25, Tryz.ntmps25
    go_wp2_with (go_at_call 57; refine (khasW_any L cb fb hb a cap ps sh P W _ m _ v _ HC.out hW).mono ?_; rw [HW.out]; rintro e w' ⟨rfl, rfl⟩)
    go_ret
    exact ⟨none, 0, rfl, ownsI_none _ _, Below.refl _ _⟩
end Go.Proofs.YtgmljgogmbaioaaGreatDoor
