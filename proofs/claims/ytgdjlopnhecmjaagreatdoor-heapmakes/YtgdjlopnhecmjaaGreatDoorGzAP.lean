/- Layer 15: KaD again -/
import Derived.Test.YtgdjlopnhecmjaaGreatDoorGzAO
import Derived.Test.YtgdjlopnhecmjaaGreatDoorJcVaC
import Derived.Test.YtgdjlopnhecmjaaGreatDoorGzAJ
import Derived.Test.YtgdjlopnhecmjaaGreatDoorGzAN
import Derived.Test.YtgdjlopnhecmjaaGreatDoorGzAM
import Derived.Deep.CutRange
namespace Go.Proofs.YtgdjlopnhecmjaaGreatDoor
open Go.RowKit
set_option linter.unusedVariables false
set_option maxRecDepth 4000
theorem bins_q (S : Nat → Prop) (a : Option Addr) (cap n : Nat) (l : List Nat) (x : Int) (w : World) (h : VAt w S 3 a (l.map numV) cap) (hs : l.Pairwise (· < ·)) (hl : l.length ≤ 100000) (hn : l.length = n) (r : Bool) (hr : decide (∃ y ∈ l, (y : Int) = x) = r) :
    Calls Tryz.prog 209 #[.slice a n cap, .int .i64 x] w fun e w' => ∃ i : Nat, e = .returned (.tuple #[.int .i64 (i : Nat), .bool r]) ∧ BinR l x i ∧ w = w' := by
  subst hn; exact bins_any S a cap l x w h hs hl r hr
/-- Does a worker keep the slot of a class at a place? -/
def keepsB (W : Nat) (K : Nat → Nat → List Nat) (c : Nat) (x : Int) : Bool := decide (c < 7) && (List.range W).any (fun v => (K v c).any (fun y => decide ((y : Int) = x)))
theorem keepsB_true {W : Nat} {K : Nat → Nat → List Nat} {c : Nat} {x : Int} : keepsB W K c x = true ↔ c < 7 ∧ ∃ v, v < W ∧ ∃ y ∈ K v c, (y : Int) = x := by
  unfold keepsB
  rw [Bool.and_eq_true, decide_eq_true_iff, List.any_eq_true]
  constructor
  · rintro ⟨h1, v, hv, h2⟩
    rw [List.any_eq_true] at h2
    obtain ⟨y, hy, e⟩ := h2
    exact ⟨h1, v, List.mem_range.1 hv, y, hy, of_decide_eq_true e⟩
  · rintro ⟨h1, v, hv, y, hy, e⟩
    exact ⟨h1, v, List.mem_range.2 hv, List.any_eq_true.2 ⟨y, hy, decide_eq_true e⟩⟩
theorem keepsB_false {W : Nat} {K : Nat → Nat → List Nat} {c : Nat} {x : Int} (h : ¬ (c < 7 ∧ ∃ v, v < W ∧ ∃ y ∈ K v c, (y : Int) = x)) : keepsB W K c x = false := by
  cases e : keepsB W K c x
  · rfl
  · exact absurd (keepsB_true.1 e) h
set_option maxHeartbeats 2000000 in
theorem kkeeps_any (L : Nat → Nat) (cb fb hb : Nat) (a : Option Addr) (cap : Nat) (ps : List Nat) (sh : List Value) (P W : Nat) (φ : Nat → Bool) (m : List Sg) (K : Nat → Nat → List Nat) (c : Nat) (x : Int) (w : World) (h : Cm w L cb fb hb a cap ps sh P W φ m K) (hW : W ≤ 8) (hc : c ≤ 7) (hs : ∀ v, v < W → c < 7 → (K v c).Pairwise (· < ·) ∧ (K v c).length ≤ 100000) (r : Bool) (hr : keepsB W K c x = r) :
    Calls Tryz.prog 176 #[.pointer (some ⟨cb, 0, none⟩), .int .i64 (c : Nat), .int .i64 x] w fun e w' => e = .returned (.bool r) ∧ w = w' := by
  have HC : Hid (Cm w L cb fb hb a cap ps sh P W φ m K) := h
  have HS : Hid (∀ v, v < W → c < 7 → (K v c).Pairwise (· < ·) ∧ (K v c).length ≤ 100000) := hs
  have HR : Hid (keepsB W K c x = r) := hr
  have c2 := h.cell2
  clear h hs hr
  by_cases h7 : c = 7
  · subst h7
    have ER : Hid (r = false) := by show r = false; rw [← HR.out]; exact keepsB_false (fun h => absurd h.1 (by omega))
    go_enter Tryz.func176, Tryz.ntmps176
    go_wp2
    go_ret
    exact ⟨by rw [ER.out]; rfl, rfl⟩
  · have hne : ((c : Int) == 7) = false := beq_eq_false_iff_ne.2 (by omega)
    have hc7 : c < 7 := by omega
    have hc7' : (c : Int) < 7 := by omega
    have hc0 : (0 : Int) ≤ (c : Int) := by omega
    clear h7
    go_enter Tryz.func176, Tryz.ntmps176
    go_wp2
    go_loopw [17] (fun iv wr => ∃ v : Nat, v ≤ W ∧ iv = .int .i64 (v : Nat) ∧ (∀ u, u < v → ¬ ∃ y ∈ K u c, (y : Int) = x) ∧ w = wr) (fun iv _ => W - (intOf iv).toNat)
    case atStart => exact ⟨0, Nat.zero_le _, rfl, fun u hu => by omega, rfl⟩
    case round =>
      obtain ⟨v, hv, rfl, hA, rfl⟩ := hrel
      have HA : Hid (∀ u, u < v → ¬ ∃ y ∈ K u c, (y : Int) = x) := hA
      clear hA
      by_cases hlt : v < W
      · obtain ⟨ak, ck, k1, _, k2⟩ := HC.out.kept v c hlt hc7
        have KV : Hid (VAt w (fun k => L k = 6 + 2 * (v * 7 + c)) 3 ak ((K v c).map numV) ck) := k2
        obtain ⟨n, hn⟩ : ∃ n, (K v c).length = n := ⟨_, rfl⟩
        have EN : Hid ((K v c).length = n) := hn
        rw [hn] at k1
        have hlt' : (v : Int) < (W : Int) := by omega
        have hv0 : (0 : Int) ≤ (v : Int) := by omega
        clear k2 hn
        cases hp : decide (∃ y ∈ K v c, (y : Int) = x)
        · have NA : Hid (∀ u, u < v + 1 → ¬ ∃ y ∈ K u c, (y : Int) = x) := fun u hu => by
            rcases Nat.lt_or_eq_of_le (Nat.le_of_lt_succ hu) with e | e
            · exact HA.out u e
            · subst e; exact of_decide_eq_false hp
          have HP : Hid (decide (∃ y ∈ K v c, (y : Int) = x) = false) := hp
          clear hp
          go_wp2_with (go_at_call 209; refine (bins_q _ ak ck n (K v c) x _ KV.out (HS.out v hlt hc7).1 (HS.out v hlt hc7).2 EN.out false HP.out).mono ?_; rintro e w' ⟨i, rfl, -, rfl⟩)
          go_roundw
          case rel => exact ⟨v + 1, by omega, by go_num, NA.out, trivial⟩
          case measure => simp [intOf]; omega
        · have ER : Hid (r = true) := by
            show r = true
            rw [← HR.out]
            exact keepsB_true.2 ⟨hc7, v, hlt, of_decide_eq_true hp⟩
          have HP : Hid (decide (∃ y ∈ K v c, (y : Int) = x) = true) := hp
          clear hp
          go_wp2_with (go_at_call 209; refine (bins_q _ ak ck n (K v c) x _ KV.out (HS.out v hlt hc7).1 (HS.out v hlt hc7).2 EN.out true HP.out).mono ?_; rintro e w' ⟨i, rfl, -, rfl⟩)
          go_ret
          exact ⟨by rw [ER.out]; rfl, rfl⟩
      · obtain rfl : v = W := by omega
        have ER : Hid (r = false) := by
          show r = false
          rw [← HR.out]
          refine keepsB_false (fun h => ?_)
          obtain ⟨_, u, hu, h⟩ := h
          exact HA.out u hu h
        go_wp2
        go_ret
        exact ⟨by rw [ER.out]; rfl, rfl⟩
/-- Is an object at a place? -/
def liveB (m : List Sg) (x : Int) : Bool := decide (0 ≤ x) && (liveC x.toNat m).isSome
theorem liveB_of {W P a0 : Nat} {m : List Sg} {x : Int} (hf : Fit W P a0 m) : liveB m x = true ↔ 0 ≤ x ∧ ∃ z c, In m x.toNat z c 1 := by
  unfold liveB
  rw [Bool.and_eq_true, decide_eq_true_iff]
  constructor
  · rintro ⟨h1, h2⟩
    obtain ⟨c, hc⟩ := Option.isSome_iff_exists.1 h2
    obtain ⟨z, h⟩ := liveC_in hc
    exact ⟨h1, z, c, h⟩
  · rintro ⟨h1, z, c, h⟩
    exact ⟨h1, by rw [liveC_of hf h]; rfl⟩
theorem liveB_no {W P a0 : Nat} {m : List Sg} {x : Int} (hf : Fit W P a0 m) (h : ¬ (0 ≤ x ∧ ∃ z c, In m x.toNat z c 1)) : liveB m x = false := by
  cases e : liveB m x
  · rfl
  · exact absurd ((liveB_of hf).1 e) h
/-- What workers keep is what the slots say. -/
def Kof (m : List Sg) : Nat → Nat → List Nat := fun v c => keptM v c m
theorem plS_le (s : Sg) (q : Nat → Bool) (l : List Nat) (i : Nat) : (plS s q i l).length ≤ l.length := by rw [plS_len]; exact List.countP_le_length
theorem pl_le {W P : Nat} (q : Nat → Nat → Bool) : ∀ {m : List Sg} {a : Nat}, Fit W P a m → (pl q m).length + 16 * a ≤ 16 * P
  | [], a, h => by have h : a ≤ P := h; simp [pl]; omega
  | s :: l, a, h => by
    have h1 := pl_le q h.2.2
    have h2 := plS_le s (q s.cl) s.st 0
    have h3 := h.2.1.facts
    have h4 := h.1
    rw [pl, List.length_append]; omega
theorem Kof_ok {P W : Nat} {m : List Sg} (ho : Okc P W m) (v c : Nat) : (Kof m v c).Pairwise (· < ·) ∧ (Kof m v c).length ≤ 100000 :=
  ⟨pl_rises _ ho.fit, by have := pl_le (keptQ v c) ho.fit; have := ho.p1; show (pl (keptQ v c) m).length ≤ _; omega⟩
theorem live_slot {W P : Nat} {m : List Sg} (hf : Fit W P 0 m) {i j x : Nat} (hi : i < m.length) (hx : m[i].st[j]? = some x) : liveB m ((m[i].at j : Nat) : Int) = (decide (x ≠ 0) && !keepsB W (Kof m) m[i].cl ((m[i].at j : Nat) : Int)) := by
  have hin : In m (m[i].at j) m[i].z m[i].cl x := ⟨m[i], List.getElem_mem hi, j, hx, rfl, rfl, rfl⟩
  have hb := hin.bound hf
  have e1 : liveB m ((m[i].at j : Nat) : Int) = decide (x = 1) := by
    rw [Bool.eq_iff_iff, liveB_of hf, decide_eq_true_iff, Int.toNat_natCast]
    constructor
    · rintro ⟨_, z, c, h⟩
      exact (hin.one hf h).2.2
    · rintro rfl; exact ⟨by omega, _, _, hin⟩
  rw [e1]
  by_cases h0 : x = 0
  · subst h0; simp
  · by_cases h1 : x = 1
    · subst h1
      have : ¬ (m[i].cl < 7 ∧ ∃ v, v < W ∧ ∃ y ∈ Kof m v m[i].cl, (y : Int) = ((m[i].at j : Nat) : Int)) := by
        rintro ⟨_, v, hv, y, hy, e⟩
        have e : y = m[i].at j := by omega
        subst e
        obtain ⟨z, h⟩ := mem_keptM.1 hy
        have := (hin.one hf h).2.2
        omega
      rw [keepsB_false this]; rfl
    · have : m[i].cl < 7 ∧ ∃ v, v < W ∧ ∃ y ∈ Kof m v m[i].cl, (y : Int) = ((m[i].at j : Nat) : Int) := by
        refine ⟨?_, x - 2, by omega, m[i].at j, mem_keptM.2 ⟨m[i].z, ?_⟩, rfl⟩
        · have := hb.2.2.2; omega
        · rw [show x - 2 + 2 = x by omega]; exact hin
      rw [keepsB_true.2 this]; simp [h1]
theorem live_not {W P : Nat} {m : List Sg} (hf : Fit W P 0 m) {i : Nat} {x : Int} (h : FindM m x i) (hi : i < m.length) (hn : ∀ j, j < m[i].st.length → x ≠ ((m[i].at j : Nat) : Int)) : liveB m x = false := by
  refine liveB_no hf (fun ⟨h0, z, c, hin⟩ => ?_)
  have h' : FindM m ((x.toNat : Nat) : Int) i := by rw [Int.toNat_of_nonneg h0]; exact h
  obtain ⟨j, h1, h2, _⟩ := (h'.in hf hi).1 hin
  exact hn j (List.getElem?_eq_some_iff.1 h1).1 (by omega)
theorem live_out {W P : Nat} {m : List Sg} (hf : Fit W P 0 m) {x : Int} (h : FindM m x m.length) : liveB m x = false := by
  refine liveB_no hf (fun ⟨h0, z, c, hin⟩ => ?_)
  have h' : FindM m ((x.toNat : Nat) : Int) m.length := by rw [Int.toNat_of_nonneg h0]; exact h
  exact h'.none hf hin
set_option maxHeartbeats 2000000 in
theorem klive_any (L : Nat → Nat) (cb fb hb : Nat) (a : Option Addr) (cap : Nat) (ps : List Nat) (sh : List Value) (P W : Nat) (φ : Nat → Bool) (m : List Sg) (x : Int) (w : World) (h : Cm w L cb fb hb a cap ps sh P W φ m (Kof m)) (ho : Okc P W m) (hx : -9223372036854775808 ≤ x ∧ x ≤ 9223372036854775807) (r : Bool) (hr : liveB m x = r) :
    Calls Tryz.prog 152 #[.pointer (some ⟨cb, 0, none⟩), .int .i64 x] w fun e w' => e = .returned (.bool r) ∧ Below w.heap.size w w' := by
  have HC : Hid (Cm w L cb fb hb a cap ps sh P W φ m (Kof m)) := h
  have HO : Hid (Okc P W m) := ho
  have HR : Hid (liveB m x = r) := hr
  have hml := ho.fit.len
  have hP := ho.p1
  clear h ho hr
  go_enter Tryz.func152, Tryz.ntmps152
  go_wp2_with fail
  refine (kfind_any L cb fb hb a cap ps sh P W φ m _ x _ HC.out HO.out).mono ?_
  rintro e w1 ⟨i, hF, rfl, b1⟩
  have HF : Hid (FindM m x i) := hF
  have B1 : Hid (Below w.heap.size w w1) := b1
  have C1 : Hid (Cm w1 L cb fb hb a cap ps sh P W φ m (Kof m)) := HC.out.keep (Ext.refl _ _) b1
  have hle := hF.1
  have c1 := C1.out.cell1
  clear hF b1
  by_cases hi : i = m.length
  · have ER : Hid (r = false) := by show r = false; rw [← HR.out]; exact live_out HO.out.fit (by rw [← hi]; exact HF.out)
    have hq : ((i : Int) == (m.length : Int)) = true := by rw [beq_iff_eq]; omega
    go_wp2
    go_ret
    exact ⟨by rw [ER.out]; rfl, B1.out⟩
  · have hq : ((i : Int) == (m.length : Int)) = false := beq_eq_false_iff_ne.2 (by omega)
    have hil : i < m.length := by omega
    obtain ⟨g, p, rfl, _, _, k1, _, bb, gg, k2, _⟩ := C1.out.at i hil
    have RT0 := Sg.Ok.rt HO.out.fit HO.out.p1 (List.getElem_mem hil)
    have OK0 := (HO.out.fit.ok _ (List.getElem_mem hil)).1
    obtain ⟨s, hs⟩ : ∃ s, m[i] = s := ⟨_, rfl⟩
    have ES : Hid (m[i] = s) := hs
    rw [hs] at k2 RT0 OK0
    have KS : Hid (SpanAt w1 p bb gg (s.pg : Int) (s.cl : Int) (s.bts : Int) s.f) := k2
    have RT : Hid (Rt (s.pg : Int) (s.cl : Int) (s.bts : Int)) := RT0
    have OK : Hid (s.Ok W) := OK0
    have hi' : (i : Int) < (m.length : Int) := by omega
    have hi0 : (0 : Int) ≤ (i : Int) := by omega
    clear k2 RT0 OK0 hs
    go_wp2_with fail
    refine (slot_any p _ _ _ x _ KS.out.box C1.out.tab.1 RT.out hx).mono ?_
    rintro e w2 ⟨y, ok, rfl, hS, rfl⟩
    have EZ : Hid (szI (s.cl : Int) (s.bts : Int) = (s.z : Int)) := OK.out.facts.2.2.2.2.2.2.2
    have EL : Hid (slN (s.cl : Int) = s.st.length) := OK.out.len.symm
    rw [EZ.out, EL.out] at hS
    rcases hS with ⟨rfl, j, hj, rfl, hxj⟩ | ⟨rfl, rfl, hno⟩
    · have hxe : x = ((s.at j : Nat) : Int) := by rw [hxj]; unfold Sg.at; rw [Int.natCast_add, Int.natCast_mul, Int.natCast_mul]; rfl
      obtain ⟨y, hy⟩ : ∃ y, s.st[j]? = some y := ⟨_, List.getElem?_eq_getElem hj⟩
      have HF : Hid (hasB (slN (s.cl : Int)) s.f (j : Int) = decide (y ≠ 0)) := by
        show _ = _
        rw [EL.out]
        unfold hasB isP
        rw [Int.toNat_natCast, Sg.f_at hy]
        simp; omega
      have ER : Hid (r = (decide (y ≠ 0) && !keepsB W (Kof m) s.cl x)) := by
        show _ = _
        rw [← HR.out, hxe]; have := live_slot HO.out.fit hil (j := j) (x := y) (by rw [ES.out]; exact hy); rw [ES.out] at this; exact this
      obtain ⟨q, hq'⟩ : ∃ q, keepsB W (Kof m) s.cl x = q := ⟨_, rfl⟩
      have HQ : Hid (keepsB W (Kof m) s.cl x = q) := hq'
      rw [hq'] at ER
      clear hxj hxe hy hq'
      cases hy0 : decide (y ≠ 0)
      · have HY : Hid (decide (y ≠ 0) = false) := hy0
        clear hy0
        go_wp2_with (go_at_call 206; refine (has_any p bb gg _ _ _ s.f (j : Int) _ KS.out).mono ?_; rw [HF.out, HY.out]; rintro e w2 ⟨rfl, rfl⟩)
        go_ret
        exact ⟨by rw [ER.out, HY.out]; rfl, B1.out⟩
      · have HY : Hid (decide (y ≠ 0) = true) := hy0
        clear hy0
        go_wp2_with (first
          | (go_at_call 206; refine (has_any p bb gg _ _ _ s.f (j : Int) _ KS.out).mono ?_; rw [HF.out, HY.out]; rintro e w2 ⟨rfl, rfl⟩)
          | (go_at_call 154; refine (class_any p _ _ _ _ KS.out.box).mono ?_; rintro e w2 ⟨rfl, rfl⟩)
          | (go_at_call 176; refine (kkeeps_any L cb fb hb _ cap ps sh P W φ m _ s.cl x _ C1.out HO.out.w1 OK.out.c7 (fun v hv hc => Kof_ok HO.out v _) q HQ.out).mono ?_; rintro e w2 ⟨rfl, rfl⟩))
        go_ret
        exact ⟨by rw [ER.out, HY.out]; simp, B1.out⟩
    · have ER : Hid (r = false) := by
        show r = false
        rw [← HR.out]
        refine live_not HO.out.fit HF.out hil (fun j hj e => hno j (by rw [ES.out] at hj; exact hj) ?_)
        rw [e, ES.out]; unfold Sg.at; rw [Int.natCast_add, Int.natCast_mul, Int.natCast_mul]; rfl
      clear hno
      go_wp2
      go_ret
      exact ⟨by rw [ER.out]; rfl, B1.out⟩
end Go.Proofs.YtgdjlopnhecmjaaGreatDoor

/- Layer 15: CaX again -/
namespace Go.Proofs.YtgdjlopnhecmjaaGreatDoor
set_option linter.unusedVariables false
set_option maxRecDepth 4000
/-- The first free slot is taken. -/
theorem first_zero (s : Sg) (v : Nat) : ∀ (st : List Nat) (i j : Nat), st[j]? = some 0 → (∀ k, k < j → st[k]? ≠ some 0) → plS s zQ i st = s.at (i + j) :: plS s zQ i (st.set j (v + 2)) ∧ ∀ b, someSt v (b + 1) st = someSt v b (st.set j (v + 2))
  | [], _, _, h, _ => by simp at h
  | x :: l, i, 0, h, _ => by
    simp at h
    subst h
    refine ⟨by simp [plS, zQ], fun b => ?_⟩
    rw [List.set_cons_zero, someSt, someSt, if_pos ⟨rfl, by omega⟩, if_neg (by omega)]
    rfl
  | x :: l, i, j + 1, h, hk => by
    have h' : l[j]? = some 0 := by simpa using h
    have hx : x ≠ 0 := fun e => hk 0 (by omega) (by simp [e])
    obtain ⟨h1, h2⟩ := first_zero s v l (i + 1) j h' (fun k hkj => by have := hk (k + 1) (by omega); simpa using this)
    refine ⟨?_, fun b => ?_⟩
    · rw [List.set_cons_succ, plS, plS, h1, show i + 1 + j = i + (j + 1) by omega]
      simp [zQ, hx]
    · rw [List.set_cons_succ, someSt, someSt, if_neg (fun k => hx k.1), if_neg (fun k => hx k.1), h2 b]
theorem no_zero (s : Sg) (v : Nat) : ∀ (st : List Nat) (i : Nat), (∀ x ∈ st, x ≠ 0) → plS s zQ i st = [] ∧ ∀ b, someSt v b st = st
  | [], _, _ => ⟨rfl, fun _ => rfl⟩
  | x :: l, i, h => by
    obtain ⟨h1, h2⟩ := no_zero s v l (i + 1) (fun y hy => h y (List.mem_cons_of_mem _ hy))
    have hx := h x List.mem_cons_self
    refine ⟨by rw [plS, h1]; simp [zQ, hx], fun b => by rw [someSt, if_neg (fun k => hx k.1), h2 b]⟩
theorem some_zero (v : Nat) : ∀ (st : List Nat), someSt v 0 st = st
  | [] => rfl
  | x :: l => by rw [someSt, if_neg (by omega), some_zero v l]
theorem someSt_len (v : Nat) : ∀ (st : List Nat) (b : Nat), (someSt v b st).length = st.length
  | [], _ => rfl
  | x :: l, b => by rw [someSt]; split <;> simp [someSt_len v l]
theorem someSt_mem {v : Nat} : ∀ {st : List Nat} {b x : Nat}, x ∈ someSt v b st → x ∈ st ∨ x = v + 2
  | [], _, _, h => by cases h
  | y :: l, b, x, h => by
    rw [someSt] at h
    split at h
    · rcases List.mem_cons.1 h with h | h
      · exact .inr h
      · rcases someSt_mem h with h | h
        · exact .inl (List.mem_cons_of_mem _ h)
        · exact .inr h
    · rcases List.mem_cons.1 h with h | h
      · exact .inl (by rw [h]; exact List.mem_cons_self)
      · rcases someSt_mem h with h | h
        · exact .inl (List.mem_cons_of_mem _ h)
        · exact .inr h
/-- A span's states turn, all else stays. -/
theorem Sg.Ok.with {W : Nat} {s : Sg} (h : s.Ok W) (st : List Nat) (hl : st.length = s.st.length) (h2 : ∀ x ∈ st, x < W + 2) (h7 : s.cl = 7 → ∀ x ∈ st, x ≤ 1) : ({ s with st := st } : Sg).Ok W := ⟨h.c7, h.sm, h.lg, by rw [hl]; exact h.len, h2, h7⟩
theorem Fit.set_st {W P : Nat} : ∀ {m : List Sg} {a i : Nat} (st : List Nat), Fit W P a m → (hi : i < m.length) → ({ m[i] with st := st } : Sg).Ok W → Fit W P a (m.set i { m[i] with st := st })
  | s :: l, a, 0, st, h, _, ho => ⟨h.1, ho, h.2.2⟩
  | s :: l, a, i + 1, st, h, hi, ho => by
    rw [List.set_cons_succ]
    exact ⟨h.1, h.2.1, Fit.set_st st h.2.2 (by simpa using hi) ho⟩
/-- What is left to be taken from the span k on. -/
structure SomeAt (v c : Nat) (m A : List Sg) (l : List Nat) (k : Nat) : Prop where
  len : A.length = k
  lek : k ≤ m.length
  four : l.length ≤ 4
  pls : l ++ (freeP c (m.drop k)).take (4 - l.length) = (freeP c m).take 4
  spans : A ++ someB v c (4 - l.length) (m.drop k) = someB v c 4 m
theorem SomeAt.start (v c : Nat) (m : List Sg) : SomeAt v c m [] [] 0 := ⟨rfl, Nat.zero_le _, by simp, by simp, by simp⟩
theorem freeP_cons (c : Nat) (s : Sg) (l : List Sg) : freeP c (s :: l) = (if s.cl = c then plS s zQ 0 s.st else []) ++ freeP c l := by
  show plS s (freeQ c s.cl) 0 s.st ++ freeP c l = _
  by_cases e : s.cl = c
  · rw [if_pos e, e, freeQ_z]
  · rw [if_neg e, plS_none s _ (fun x => by simp [freeQ, e])]
theorem SomeAt.skip {v c : Nat} {m A : List Sg} {l : List Nat} {k : Nat} (h : SomeAt v c m A l k) (hk : k < m.length) (hc : m[k].cl ≠ c) : SomeAt v c m (A ++ [m[k]]) l (k + 1) := by
  have e := List.drop_eq_getElem_cons hk
  refine ⟨by simp [h.len], hk, h.four, ?_, ?_⟩
  · have := h.pls
    rw [e, freeP_cons, if_neg hc, List.nil_append] at this
    exact this
  · have := h.spans
    rw [e, someB, if_neg hc] at this
    rw [List.append_assoc]; exact this
theorem SomeAt.fill {v c : Nat} {m A : List Sg} {l : List Nat} {k : Nat} (h : SomeAt v c m A l k) (hk : k < m.length) (hc : m[k].cl = c) : SomeAt v c m (A ++ [{ m[k] with st := someSt v (4 - l.length) m[k].st }]) (l ++ (plS m[k] zQ 0 m[k].st).take (4 - l.length)) (k + 1) := by
  have e := List.drop_eq_getElem_cons hk
  have h4 := h.four
  have hlen : 4 - (l ++ (plS m[k] zQ 0 m[k].st).take (4 - l.length)).length = someLeft (4 - l.length) m[k].st := by
    rw [someLeft_eq, List.length_append, List.length_take, plS_len]; omega
  refine ⟨by simp [h.len], hk, by simp; omega, ?_, ?_⟩
  · have := h.pls
    rw [e, freeP_cons, if_pos hc, List.take_append] at this
    rw [hlen, someLeft_eq, List.append_assoc]
    rw [plS_len] at this
    exact this
  · have := h.spans
    rw [e, someB, if_pos hc] at this
    rw [hlen, List.append_assoc]; exact this
theorem SomeAt.done {v c W P : Nat} {m A : List Sg} {l : List Nat} (h : SomeAt v c m A l m.length) (hf : Fit W P 0 m) : l = (freeP c m).take 4 ∧ A = someM v c m := by
  have h1 := h.pls
  have h2 := h.spans
  rw [List.drop_length] at h1 h2
  refine ⟨by simpa [freeP, pl] using h1, ?_⟩
  unfold someM
  rw [← some_eq v c hf, ← h2]
  simp [someB]
theorem some_none {v c W P : Nat} {m : List Sg} (hf : Fit W P 0 m) (h : freeP c m = []) : someM v c m = m := by unfold someM; rw [h]; exact sets_nil _ _
/-- Where a new span is laid in. -/
theorem ins_at {t : Sg} : ∀ {m : List Sg} {i : Nat}, i ≤ m.length → (∀ s ∈ m.take i, s.pg < t.pg) → (∀ s ∈ m.drop i, ¬ s.pg < t.pg) → ins t m = m.take i ++ t :: m.drop i
  | [], i, hi, _, _ => by simp [ins]
  | s :: l, 0, _, _, h2 => by
    have := h2 s (by simp)
    rw [ins, if_neg this]; simp
  | s :: l, i + 1, hi, h1, h2 => by
    have := h1 s (by simp)
    rw [ins, if_pos this, ins_at (by simpa using hi) (fun u hu => h1 u (by simp [hu])) (fun u hu => h2 u (by simpa using hu))]
    simp
theorem find_ins {W P : Nat} {t : Sg} {m : List Sg} {i : Nat} (hf : Fit W P 0 m) (ht : t.Ok W) (hl : layP P t.k 0 m = some t.pg) (h : FindM m (256 * (t.pg : Int)) i) : ins t m = m.take i ++ t :: m.drop i := by
  refine ins_at h.1 (fun s hs => ?_) (fun s hs hlt => ?_)
  · have h1 := h.2.1 s hs
    have h2 := (hf.ok s (List.mem_of_mem_take hs)).1.facts
    omega
  · have h1 := h.2.2 s hs
    have hm := List.mem_of_mem_drop hs
    have h2 := ht.facts
    rcases lay_apart ht hf hl s hm with e | e <;> omega
theorem find_insU {W P : Nat} {t u : Sg} {m : List Sg} {i : Nat} (hf : Fit W P 0 m) (ht : t.Ok W) (hl : layP P t.k 0 m = some t.pg) (h : FindM m (256 * (t.pg : Int)) i) (hu : u.pg = t.pg) : ins u m = m.take i ++ u :: m.drop i := by
  refine ins_at h.1 (fun s hs => ?_) (fun s hs hlt => ?_)
  · have h1 := h.2.1 s hs
    have h2 := (hf.ok s (List.mem_of_mem_take hs)).1.facts
    omega
  · have h1 := h.2.2 s hs
    have hm := List.mem_of_mem_drop hs
    have h2 := ht.facts
    rcases lay_apart ht hf hl s hm with e | e <;> omega
theorem plS_all (s : Sg) : ∀ (st : List Nat) (i : Nat), plS s zQ i st = [] → ∀ x ∈ st, x ≠ 0
  | [], _, _, x, h => by cases h
  | y :: l, i, h, x, hx => by
    rw [plS, List.append_eq_nil_iff] at h
    rcases List.mem_cons.1 hx with rfl | hx
    · intro e
      subst e
      simp [zQ] at h
    · exact plS_all s l (i + 1) h.2 x hx
theorem someB_append {v c : Nat} {X : List Sg} : ∀ {A : List Sg} {b : Nat}, freeP c A = [] → someB v c b (A ++ X) = A ++ someB v c b X
  | [], _, _ => rfl
  | s :: A, b, h => by
    rw [freeP_cons, List.append_eq_nil_iff] at h
    rw [List.cons_append, someB]
    by_cases e : s.cl = c
    · rw [if_pos e] at h ⊢
      have hz := plS_all s s.st 0 h.1
      obtain ⟨_, z2⟩ := no_zero s v s.st 0 hz
      have z3 : someLeft b s.st = b := by
        rw [someLeft_eq]
        have : s.st.countP zQ = 0 := by rw [List.countP_eq_zero]; intro x hx; simp [zQ, hz x hx]
        omega
      rw [z2, z3, someB_append h.2]; rfl
    · rw [if_neg e, someB_append h.2]; rfl
theorem freeP_append (c : Nat) (A B : List Sg) : freeP c (A ++ B) = freeP c A ++ freeP c B := pl_append _ _ _
/-- What a worker takes of the one span that has free slots. -/
theorem some_one {v c W P : Nat} {m A B : List Sg} {t : Sg} (hf : Fit W P 0 (A ++ t :: B)) (hA : freeP c A = []) (hB : freeP c B = []) (hc : t.cl = c) : someM v c (A ++ t :: B) = A ++ { t with st := someSt v 4 t.st } :: B ∧ (freeP c (A ++ t :: B)).take 4 = (plS t zQ 0 t.st).take 4 := by
  constructor
  · unfold someM
    rw [← some_eq v c hf, someB_append hA, someB, if_pos hc]
    congr 2
    have := someB_append (v := v) (c := c) (X := []) (A := B) (b := someLeft 4 t.st) hB
    simpa [someB] using this
  · rw [freeP_append, hA, List.nil_append, freeP_cons, if_pos hc, hB, List.append_nil]
/-- Which slots a worker is to keep, and what lies there then. -/
def someRes (P v c : Nat) (m : List Sg) : List Nat × List Sg :=
  if freeP c m ≠ [] then ((freeP c m).take 4, someM v c m) else match layP P 1 0 m with
    | none => ([], m)
    | some p => ((freeP c (ins (fresh p c 0 0) m)).take 4, someM v c (ins (fresh p c 0 0) m))
end Go.Proofs.YtgdjlopnhecmjaaGreatDoor

/- Layer 15: RuI again -/
namespace Go.Proofs.YtgdjlopnhecmjaaGreatDoor
open Go.RowKit
set_option linter.unusedVariables false
set_option maxRecDepth 4000
theorem At.fresh {w w' : World} {S : Nat → Prop} {b n : Nat} {L : List (Nat × Nat)} (h : At w S b n L) (g : Nat) (hb : Below w.heap.size w w') (hg : w.heap.size ≤ g) : At w' (fun k => S k ∧ k ≠ g) b n L := by
  have := (h.mono (T := fun k => S k ∧ k ≠ g) (fun i hi hs => ⟨hs, by omega⟩))
  exact this.keep hb
theorem keepA {W : World} {p : Addr} {v : Value} {o : Obj} (h : W.drew.cell? p = some v) : (W.alloc o).drew.cell? p = some v := Lib.cell?_alloc_some (W := W) o h
theorem newA0 {W : World} {q : Nat} {v v' : Value} {t : TypeId} (hq : q = W.heap.size) : (W.alloc (.cells #[v, v'] t)).drew.cell? ⟨q, 0, none⟩ = some v := by subst hq; exact cell_of_row _ _ 0 _ _ _ (Go.heap_alloc_new W _)
theorem newA1 {W : World} {q : Nat} {v v' : Value} {t : TypeId} (hq : q = W.heap.size) : (W.alloc (.cells #[v, v'] t)).drew.cell? ⟨q, 1, none⟩ = some v' := by subst hq; exact cell_of_row _ _ 1 _ _ _ (Go.heap_alloc_new W _)
theorem belA {w W : World} {o : Obj} (h : Below w.heap.size w W.drew) : Below w.heap.size w (W.alloc o).drew := h.alloc h.size o
set_option maxHeartbeats 4000000 in
theorem cut_any (S : Nat → Prop) (b n i u k : Nat) (L : List (Nat × Nat)) (w : World) (h : At w S b n L) (hS : ∀ i, w.heap.size ≤ i → S i) (hi : i < L.length) (hl : L.length ≤ 65536) (h1 : L[i].1 ≤ u) (h2 : u + k ≤ L[i].1 + L[i].2) (h3 : L[i].1 + L[i].2 ≤ 65536) :
    Calls Tryz.prog 231 #[.pointer (some ⟨b, 0, none⟩), .int .i64 (i : Nat), .agg #[.int .i64 (u : Nat), .int .i64 (k : Nat)]] w fun e w' =>
      e = .returned (.tuple #[]) ∧ At w' S b n (L.take i ++ [(L[i].1, u - L[i].1), (u + k, L[i].1 + L[i].2 - (u + k))].filter notE ++ L.drop (i + 1)) ∧ Tu S w w' := by
  have H : Hid (At w S b n L) := h
  obtain ⟨a, cap, hB⟩ := h
  obtain ⟨g, rfl, _, hgl, d0, d1⟩ := hB.run hi
  have c1 := hB.cell1
  have hbl := hB.lt
  obtain ⟨x, hx⟩ : ∃ x, L[i] = x := ⟨_, rfl⟩
  rw [hx] at d0 d1 h1 h2 h3 ⊢
  obtain ⟨x1, x2⟩ := x
  simp only at d0 d1 h1 h2 h3 ⊢
  obtain ⟨s, hs⟩ : ∃ s, x1 + x2 = s := ⟨_, rfl⟩
  obtain ⟨t, ht⟩ : ∃ t, u + k = t := ⟨_, rfl⟩
  have ES : Hid (x1 + x2 = s) := hs
  have ET : Hid (u + k = t) := ht
  rw [hs, ht] at h2 ⊢
  rw [hs] at h3
  have hi' : (i : Int) < (L.length : Int) := by omega
  have hi0 : (0 : Int) ≤ (i : Int) := by omega
  have n0 := World.new_ne w ⟨g, i * 2, none⟩ d0
  have n1 := World.new_ne w ⟨b, 1, none⟩ c1
  have bx1 : x1 ≤ 65536 := by omega
  have bu : u ≤ 65536 := by omega
  have bt : t ≤ 65536 := by omega
  obtain ⟨wz, hwz⟩ : ∃ wz, ((w.alloc (.cells #[.int .i64 (u : Nat), .int .i64 (k : Nat)] 260)).alloc (.cells #[.int .i64 (x1 : Nat), .int .i64 (x2 : Nat)] 260)).alloc (.cells #[.int .i64 (x1 : Nat), .int .i64 ((u : Int) - (x1 : Int))] 260) = wz := ⟨_, rfl⟩
  have BZ : Hid (Below w.heap.size w wz) := by show Below _ _ _; rw [← hwz]; exact (((Below.refl _ w).alloc (Nat.le_refl _) _).alloc (by simp) _).alloc (by simp; omega) _
  have zz : wz.heap.size = w.heap.size + 3 := by rw [← hwz]; simp
  have q0 : wz.heap[w.heap.size]? = some (.cells #[.int .i64 (u : Nat), .int .i64 (k : Nat)] 260 (0, 0)) := by
    rw [← hwz, Below.heap_alloc _ _ _ (by simp; omega), Below.heap_alloc _ _ _ (by simp)]; exact Go.heap_alloc_new w _
  have q1 : wz.heap[w.heap.size + 1]? = some (.cells #[.int .i64 (x1 : Nat), .int .i64 (x2 : Nat)] 260 (0, 0)) := by
    rw [← hwz, Below.heap_alloc _ _ _ (by simp)]
    have := Go.heap_alloc_new (w.alloc (.cells #[.int .i64 (u : Nat), .int .i64 (k : Nat)] 260)) (.cells #[.int .i64 (x1 : Nat), .int .i64 (x2 : Nat)] 260)
    rwa [World.size_alloc] at this
  have q2 : wz.heap[w.heap.size + 2]? = some (.cells #[.int .i64 (x1 : Nat), .int .i64 ((u : Int) - (x1 : Int))] 260 (0, 0)) := by
    rw [← hwz]
    have := Go.heap_alloc_new ((w.alloc (.cells #[.int .i64 (u : Nat), .int .i64 (k : Nat)] 260)).alloc (.cells #[.int .i64 (x1 : Nat), .int .i64 (x2 : Nat)] 260)) (.cells #[.int .i64 (x1 : Nat), .int .i64 ((u : Int) - (x1 : Int))] 260)
    rwa [World.size_alloc, World.size_alloc] at this
  have r00 : wz.cell? ⟨w.heap.size, 0, none⟩ = some (.int .i64 (u : Nat)) := cell_of_row _ _ 0 _ _ _ q0
  have r01 : wz.cell? ⟨w.heap.size, 1, none⟩ = some (.int .i64 (k : Nat)) := cell_of_row _ _ 1 _ _ _ q0
  have r10 : wz.cell? ⟨w.heap.size + 1, 0, none⟩ = some (.int .i64 (x1 : Nat)) := cell_of_row _ _ 0 _ _ _ q1
  have r11 : wz.cell? ⟨w.heap.size + 1, 1, none⟩ = some (.int .i64 (x2 : Nat)) := cell_of_row _ _ 1 _ _ _ q1
  have r20 : wz.cell? ⟨w.heap.size + 1 + 1, 0, none⟩ = some (.int .i64 (x1 : Nat)) := cell_of_row _ _ 0 _ _ _ q2
  have r21 : wz.cell? ⟨w.heap.size + 1 + 1, 1, none⟩ = some (.int .i64 ((u : Int) - (x1 : Int))) := cell_of_row _ _ 1 _ _ _ q2
  have m0 := World.new_ne wz _ r00
  have m1 := World.new_ne wz _ r10
  have m2 := World.new_ne wz _ r20
  have HWR : Hid (IntKind.i64.wrap ((s : Int) - (t : Int)) = (s : Int) - (t : Int)) := by show _ = _; rw [IntKind.wrap_i64]; omega
  have ZZ : Hid (wz.heap.size = w.heap.size + 3) := zz
  clear hB hx hs ht zz q0 q1 q2
  go_enter Tryz.func231, Tryz.ntmps231
  go_upto_region 3 with fail
  go_cut [8] from 24 to 31 (fun v wx => ∃ q : Nat, v = .pointer (some ⟨q, 0, none⟩) ∧ wx.cell? ⟨q, 0, none⟩ = some (.int .i64 (t : Nat)) ∧ wx.cell? ⟨q, 1, none⟩ = some (.int .i64 ((s : Int) - (t : Int))) ∧ Below wz.heap.size wz wx)
  case first =>
    go_region_held3 (fun w' => w'.cell? ⟨w.heap.size, 0, none⟩ = some (.int .i64 (u : Nat)) ∧ w'.cell? ⟨w.heap.size, 1, none⟩ = some (.int .i64 (k : Nat)) ∧ w'.cell? ⟨w.heap.size + 1, 0, none⟩ = some (.int .i64 (x1 : Nat)) ∧ w'.cell? ⟨w.heap.size + 1, 1, none⟩ = some (.int .i64 (x2 : Nat))) (first | (refine ⟨?_, ?_, ?_, ?_⟩ <;> (repeat refine keepA ?_) <;> (first | exact r00 | exact r01 | exact r10 | exact r11)) | go_keep)
      (first
        | (go_at_call 230; refine (end_any u k _ (by have := ET.out; omega)).mono ?_; rw [ET.out]; rintro e w' ⟨rfl, rfl⟩)
        | (go_at_call 230; refine (end_any x1 x2 _ (by have := ES.out; omega)).mono ?_; rw [ES.out]; rintro e w' ⟨rfl, rfl⟩))
    all_goals
      go_wp2_with fail
      go_meet
      refine ⟨_, rfl, ?_, ?_, ?_⟩
      · repeat (first | exact newA0 (by simp) | refine keepA ?_)
      · rw [HWR.out]
        repeat (first | exact newA1 (by simp) | refine keepA ?_)
      · repeat (first | exact (Below.refl _ wz).drew | refine belA ?_)
  case rest =>
    obtain ⟨q, rfl, k0, k1, bw⟩ := hcut
    have e0 := bcell bw r20
    have e1 := bcell bw r21
    have BW : Hid (Below w.heap.size w wc) := BZ.out.trans (bw.mono BZ.out.size)
    obtain ⟨D, hD⟩ : ∃ D, wc.alloc (.cells #[.int .i64 (x1 : Nat), .int .i64 ((u : Int) - (x1 : Int)), .int .i64 (t : Nat), .int .i64 ((s : Int) - (t : Int))] 260) = D := ⟨_, rfl⟩
    have BD : Hid (Below w.heap.size w D) := by show Below _ _ _; rw [← hD]; exact BW.out.alloc BW.out.size _
    have RD : Hid (Row D wc.heap.size [(x1, u - x1), (t, s - t)]) := by
      show D.heap[wc.heap.size]? = _
      rw [← hD, Go.heap_alloc_new]
      simp only [cellsR]
      rw [Int.ofNat_sub h1, Int.ofNat_sub h2]
    have HD : Hid (wc.alloc (.cells #[.int .i64 (x1 : Nat), .int .i64 ((u : Int) - (x1 : Int)), .int .i64 (t : Nat), .int .i64 ((s : Int) - (t : Int))] 260) = D) := hD
    clear hD bw m0 m1 m2 r00 r01 r10 r11 r20 r21 hwz
    go_wp2_with fail
    rw [HD.out, show ((i : Int) + 1) = ((i + 1 : Nat) : Int) from rfl]
    refine (replace_any S b n wc.heap.size i (i + 1) L [(x1, u - x1), (t, s - t)] D (H.out.fresh _ BD.out BW.out.size) (fun k hk => hS k (by have := BD.out.size; omega)) RD.out (hS _ BW.out.size) (by omega) (by omega) (by omega) (by simp)).mono ?_
    rintro e w9 ⟨rfl, h9, t9⟩
    have H9 : Hid (At w9 S b n (L.take i ++ [(x1, u - x1), (t, s - t)].filter notE ++ L.drop (i + 1))) := h9
    have T9 : Hid (Tu S w w9) := (Tu.ofBelow BD.out).trans t9
    clear h9 t9
    go_wp2
    go_end0
    exact ⟨rfl, H9.out, T9.out⟩
end Go.Proofs.YtgdjlopnhecmjaaGreatDoor
