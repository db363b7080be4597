/- What takeSome does. -/
import Derived.Test.YtgmljgogmbaioaaGreatDoorKaG
import Derived.Test.YtgmljgogmbaioaaGreatDoorSpIJ
namespace Go.Proofs.YtgmljgogmbaioaaGreatDoor
open Go.RowKit
set_option linter.unusedVariables false
set_option maxRecDepth 4000

theorem kfill_nil (w : World) : Calls Tryz.prog 97 #[.slice none 0 0, .pointer none] w fun e w' => e = .returned (.slice none 0 0) ∧ w = w' := by
  go_enter Tryz.func97, Tryz.ntmps97
  go_wp2
  go_loopw [0] (fun av wr => av = .slice none 0 0 ∧ w = wr) (fun _ _ => 0)
  case atStart => exact ⟨rfl, rfl⟩
  case round =>
    obtain ⟨rfl, rfl⟩ := hrel
    go_wp2_with (go_at_call 122; refine (take_nil _).mono ?_; rintro e w' ⟨rfl, rfl⟩)
    go_ret
    exact ⟨rfl, rfl⟩
theorem kfill_q (v : Nat) (p n : Nat) (s : Sg) (T S : Nat → Prop) (a : Option Addr) (l : List Nat) (cap W : Nat) (w : World) (hs : SpS w T p s) (ok : s.Ok W) (hT : Tabs w) (rt : Rt (s.pg : Int) (s.cl : Int) (s.bts : Int)) (hV : VAt w S 3 a (l.map numV) cap) (hS : ∀ k, w.heap.size ≤ k → S k) (ha : Apt T S) (hl : l.length ≤ 4) (hn : l.length = n) :
    Calls Tryz.prog 97 #[.slice a n cap, .pointer (some ⟨p, 0, none⟩)] w fun e w' => ∃ (a' : Option Addr) (cap' n' : Nat), e = .returned (.slice a' n' cap') ∧ (l ++ (plS s zQ 0 s.st).take (4 - l.length)).length = n' ∧ SpS w' T p { s with st := someSt v (4 - l.length) s.st } ∧ VAt w' S 3 a' ((l ++ (plS s zQ 0 s.st).take (4 - l.length)).map numV) cap' ∧ Tu (fun k => T k ∨ S k) w w' := by
  subst hn
  refine (kfill_any v p s T S a l cap W w hs ok hT rt hV hS ha hl).mono ?_
  rintro e w' ⟨a', cap', rfl, h⟩
  exact ⟨a', cap', _, rfl, rfl, h⟩
/-- A span's slots turned, and lists of the call's own. -/
theorem Cm.spannedT {w w' : World} {L : Nat → Nat} {cb fb hb : Nat} {a : Option Addr} {cap : Nat} {ps : List Nat} {sh : List Value} {P W : Nat} {φ : Nat → Bool} {m : List Sg} {K : Nat → Nat → List Nat} (h : Cm w L cb fb hb a cap ps sh P W φ m K) {a0 : Nat} (hf : Fit W P a0 m) (hW : W ≤ 8) (i : Nat) (hi : i < m.length) (hi' : i < ps.length) (st : List Nat) (ht : Tu (fun k => (L k = 5 + 2 * m[i].pg ∨ L k = 1000) ∨ w.heap.size ≤ k) w w')
    (hs : SpS w' (fun k => L k = 5 + 2 * m[i].pg) ps[i] { m[i] with st := st }) : Cm w' L cb fb hb a cap ps sh P W φ (m.set i { m[i] with st := st }) K := by
  have s := h.stayZ (fun l => l = 5 + 2 * m[i].pg ∨ l = 1000) (by omega) (Ext.refl _ _) ht
  refine ⟨s.tab, s.l0, s.l1, by rw [List.length_set]; exact s.box (by omega), s.lb, s.free (by omega), s.row (by omega), by rw [List.length_set]; exact h.plen, fun j hj => ?_, s.hrow (by omega), s.lh, h.shl, fun v c hv hc => s.shelf v c hv hc (by omega)⟩
  rw [List.length_set] at hj
  rw [List.getElem_set]
  by_cases e : i = j
  · subst e; simp only [if_true]; exact hs
  · simp only [if_neg e]
    refine s.spans j hj _ ?_
    have ok1 := (hf.ok _ (List.getElem_mem hj)).1.facts
    have ok2 := (hf.ok _ (List.getElem_mem hi)).1.facts
    rcases Nat.lt_or_gt_of_ne e with k | k
    · have := (hf.split hj).2 m[i] (by rw [List.mem_iff_getElem]; exact ⟨i, by simp; omega, by simp⟩)
      omega
    · have := (hf.split hi).2 m[j] (by rw [List.mem_iff_getElem]; exact ⟨j, by simp; omega, by simp⟩)
      omega
/-- Under way: the spans up to k were asked. -/
structure SomeW (L0 : Nat → Nat) (cb fb hb : Nat) (a : Option Addr) (cap : Nat) (ps : List Nat) (sh : List Value) (P W : Nat) (m : List Sg) (K : Nat → Nat → List Nat) (v c : Nat) (L : Nat → Nat) (w wr : World) (A : List Sg) (l : List Nat) (k : Nat) (a1 : Option Addr) (cap1 : Nat) : Prop where
  cm : Cm wr L0 cb fb hb a cap ps sh P W (pgF m) (A ++ m.drop k) K
  fit : Fit W P 0 (A ++ m.drop k)
  at' : SomeAt v c m A l k
  va : VAt wr (fun j => L0 j = 1000 ∧ w.heap.size ≤ j) 3 a1 (l.map numV) cap1
  mv : Mv L w L0 wr
theorem SomeW.get {L0 : Nat → Nat} {cb fb hb : Nat} {a : Option Addr} {cap : Nat} {ps : List Nat} {sh : List Value} {P W : Nat} {m : List Sg} {K : Nat → Nat → List Nat} {v c : Nat} {L : Nat → Nat} {w wr : World} {A : List Sg} {l : List Nat} {k : Nat} {a1 : Option Addr} {cap1 : Nat} (h : SomeW L0 cb fb hb a cap ps sh P W m K v c L w wr A l k a1 cap1) (hk : k < m.length) : ∃ hk' : k < (A ++ m.drop k).length, (A ++ m.drop k)[k] = m[k] := by
  have hl := h.at'.len
  refine ⟨by simp; omega, ?_⟩
  rw [List.getElem_append_right (by omega)]
  simp [hl]
theorem set_mid {A B : List Sg} {s t : Sg} {k : Nat} (hA : A.length = k) : (A ++ s :: B).set k t = A ++ t :: B := by
  subst hA
  rw [List.set_append]
  simp
/-- A span of the class was asked. -/
theorem SomeW.fill {L0 : Nat → Nat} {cb fb hb : Nat} {a : Option Addr} {cap : Nat} {ps : List Nat} {sh : List Value} {P W : Nat} {m : List Sg} {K : Nat → Nat → List Nat} {v c : Nat} {L : Nat → Nat} {w wr wn : World} {A : List Sg} {l : List Nat} {k : Nat} {a1 a2 : Option Addr} {cap1 cap2 : Nat} (h : SomeW L0 cb fb hb a cap ps sh P W m K v c L w wr A l k a1 cap1) (hk : k < m.length) (hW : W ≤ 8) (hv : v < W) (hc7 : c < 7) (hc : m[k].cl = c) (hL0 : ∀ j, w.heap.size ≤ j → L0 j = 1000) {p : Nat} (hp : ps[k]? = some p)
    (hs : SpS wn (fun j => L0 j = 5 + 2 * m[k].pg) p { m[k] with st := someSt v (4 - l.length) m[k].st }) (hva : VAt wn (fun j => (L0 j = 1000 ∧ w.heap.size ≤ j) ∨ wr.heap.size ≤ j) 3 a2 ((l ++ (plS m[k] zQ 0 m[k].st).take (4 - l.length)).map numV) cap2) (ht : Tu (fun j => L0 j = 5 + 2 * m[k].pg ∨ ((L0 j = 1000 ∧ w.heap.size ≤ j) ∨ wr.heap.size ≤ j)) wr wn) :
    SomeW L0 cb fb hb a cap ps sh P W m K v c L w wn (A ++ [{ m[k] with st := someSt v (4 - l.length) m[k].st }]) (l ++ (plS m[k] zQ 0 m[k].st).take (4 - l.length)) (k + 1) a2 cap2 := by
  obtain ⟨hk', hg⟩ := h.get hk
  have hl := h.at'.len
  have hd := List.drop_eq_getElem_cons hk
  have hwr := h.mv.tu.size
  have e0 : (A ++ [({ m[k] with st := someSt v (4 - l.length) m[k].st } : Sg)]) ++ m.drop (k + 1) = (A ++ m.drop k).set k { (A ++ m.drop k)[k] with st := someSt v (4 - l.length) m[k].st } := by
    rw [hg, hd, set_mid hl]; simp
  have hpl : k < ps.length := by rw [h.cm.plen]; exact hk'
  have hpe : ps[k] = p := by rw [List.getElem?_eq_getElem hpl] at hp; exact Option.some.inj hp
  have ht' : Tu (fun j => (L0 j = 5 + 2 * m[k].pg ∨ L0 j = 1000) ∨ wr.heap.size ≤ j) wr wn := ht.mono (fun j _ hj => by rcases hj with e | e | e; exact .inl (.inl e); exact .inl (.inr e.1); exact .inr e)
  refine ⟨?_, ?_, h.at'.fill hk hc, hva.mono (fun j _ hj => ?_), h.mv.trans (Mv.of (fun l => l = 5 + 2 * m[k].pg ∨ l = 1000) (by omega) (Ext.refl _ _) ht')⟩
  · rw [e0]
    refine h.cm.spannedT h.fit hW k hk' hpl _ ?_ ?_
    · rw [hg]; exact ht'
    · simp only [hg, hpe]; exact hs
  · rw [e0]
    refine h.fit.set_st _ hk' ?_
    rw [hg]
    have ok := (h.fit.ok _ (List.getElem_mem hk')).1
    rw [hg] at ok
    refine ok.with _ (someSt_len _ _ _) (fun x hx => ?_) (fun e => by omega)
    rcases someSt_mem hx with hx | hx
    · exact ok.w2 x hx
    · omega
  · rcases hj with e | e
    · exact e
    · exact ⟨hL0 j (by omega), by omega⟩
end Go.Proofs.YtgmljgogmbaioaaGreatDoor

/- What takeSome does, walked. -/
namespace Go.Proofs.YtgmljgogmbaioaaGreatDoor
open Go.RowKit
set_option linter.unusedVariables false
set_option maxRecDepth 4000

theorem SomeW.skip {L0 : Nat → Nat} {cb fb hb : Nat} {a : Option Addr} {cap : Nat} {ps : List Nat} {sh : List Value} {P W : Nat} {m : List Sg} {K : Nat → Nat → List Nat} {v c : Nat} {L : Nat → Nat} {w wr : World} {A : List Sg} {l : List Nat} {k : Nat} {a1 : Option Addr} {cap1 : Nat} (h : SomeW L0 cb fb hb a cap ps sh P W m K v c L w wr A l k a1 cap1) (hk : k < m.length) (hc : m[k].cl ≠ c) :
    SomeW L0 cb fb hb a cap ps sh P W m K v c L w wr (A ++ [m[k]]) l (k + 1) a1 cap1 := by
  have e : (A ++ [m[k]]) ++ m.drop (k + 1) = A ++ m.drop k := by rw [List.drop_eq_getElem_cons hk]; simp
  exact ⟨by rw [e]; exact h.cm, by rw [e]; exact h.fit, h.at'.skip hk hc, h.va, h.mv⟩
/-- What takeSome leaves. -/
def SomeP (L : Nat → Nat) (w : World) (cb fb hb P W : Nat) (K : Nat → Nat → List Nat) (r : List Nat × List Sg) (e : Ending) (w' : World) : Prop :=
  ∃ (a' : Option Addr) (cap' : Nat) (L' : Nat → Nat) (a : Option Addr) (cap : Nat) (ps : List Nat) (sh : List Value), e = .returned (.slice a' r.1.length cap') ∧ Cm w' L' cb fb hb a cap ps sh P W (pgF r.2) r.2 K ∧ Mv L w L' w' ∧ VAt w' (fun k => L' k = 1000 ∧ w.heap.size ≤ k) 3 a' (r.1.map numV) cap'
theorem pgF_some (v c : Nat) (m : List Sg) : pgF (someM v c m) = pgF m := pgF_turn _ _
set_option maxHeartbeats 2000000 in
theorem ksome_any (L : Nat → Nat) (cb fb hb : Nat) (a : Option Addr) (cap : Nat) (ps : List Nat) (sh : List Value) (P W : Nat) (m : List Sg) (K : Nat → Nat → List Nat) (v c : Nat) (w : World) (h : Cm w L cb fb hb a cap ps sh P W (pgF m) m K) (ho : Okc P W m) (hv : v < W) (hc : c < 7) :
    Calls Tryz.prog 99 #[.pointer (some ⟨cb, 0, none⟩), .int .i64 (c : Nat)] w (SomeP L w cb fb hb P W K (someRes P v c m)) := by
  have hW := ho.w1
  have hP := ho.p1
  have hml := ho.fit.len
  have HO : Hid (Okc P W m) := ho
  obtain ⟨L0, hL0⟩ : ∃ L0, lab L w.heap.size 1000 = L0 := ⟨_, rfl⟩
  have HE : Hid (Ext w L L0) := by rw [← hL0]; exact lab_ext w L 1000
  have HN : Hid (∀ j, w.heap.size ≤ j → L0 j = 1000) := fun j hj => by rw [← hL0]; exact lab_new hj
  have S0 : Hid (SomeW L0 cb fb hb a cap ps sh P W m K v c L w w [] [] 0 none 0) := ⟨h.keep HE.out (Below.refl _ _), ho.fit, SomeAt.start v c m, VAt.nil _ _ _, ⟨HE.out, Tu.refl _ _⟩⟩
  have c1 := h.cell1
  obtain ⟨R, hR⟩ : ∃ R, someRes P v c m = R := ⟨_, rfl⟩
  have ER : Hid (someRes P v c m = R) := hR
  rw [hR]
  clear h ho hL0 hR
  go_enter Tryz.func99, Tryz.ntmps99
  go_wp2
  go_loopw [5, 13] (fun av iv wr => ∃ (A : List Sg) (l : List Nat) (k : Nat) (a1 : Option Addr) (cap1 : Nat), av = .slice a1 l.length cap1 ∧ iv = .int .i64 (k : Nat) ∧ SomeW L0 cb fb hb a cap ps sh P W m K v c L w wr A l k a1 cap1) (fun _ iv _ => m.length - (intOf iv).toNat)
  case atStart => exact ⟨[], [], 0, none, 0, rfl, rfl, S0.out⟩
  case round =>
    obtain ⟨A, l, k, a1, cap1, rfl, rfl, hS⟩ := hrel
    rename World => wr
    have HS : Hid (SomeW L0 cb fb hb a cap ps sh P W m K v c L w wr A l k a1 cap1) := hS
    have hk := hS.at'.lek
    obtain ⟨n1, hn1⟩ : ∃ n1, l.length = n1 := ⟨_, rfl⟩
    have EN : Hid (l.length = n1) := hn1
    have hn4 := hS.at'.four
    rw [hn1] at hn4 ⊢
    clear hS c1 hn1
    by_cases hlt : k < m.length
    · have hlt' : (k : Int) < (m.length : Int) := by omega
      have hk0 : (0 : Int) ≤ (k : Int) := by omega
      obtain ⟨hk', hg⟩ := HS.out.get hlt
      obtain ⟨g, p, rfl, _, _, k1, k2, k3⟩ := HS.out.cm.at k hk'
      rw [hg] at k3
      have OK0 := (HO.out.fit.ok _ (List.getElem_mem hlt)).1
      have RT0 := Sg.Ok.rt HO.out.fit HO.out.p1 (List.getElem_mem hlt)
      obtain ⟨s, hs⟩ : ∃ s, m[k] = s := ⟨_, rfl⟩
      have ES : Hid (m[k] = s) := hs
      rw [hs] at k3 OK0 RT0
      have KS : Hid (SpS wr (fun j => L0 j = 5 + 2 * s.pg) p s) := k3
      have KP : Hid (ps[k]? = some p) := k2
      have OK : Hid (s.Ok W) := OK0
      have RT : Hid (Rt (s.pg : Int) (s.cl : Int) (s.bts : Int)) := RT0
      clear k3 k2 OK0 RT0 hs hg hk'
      by_cases hcl : s.cl = c
      · have APT : Hid (Apt (fun j => L0 j = 5 + 2 * s.pg) (fun j => (L0 j = 1000 ∧ w.heap.size ≤ j) ∨ wr.heap.size ≤ j)) := by
          have := HS.out.cm.l0
          have := HS.out.cm.l1
          have := HS.out.cm.tab.1.1
          have := HS.out.cm.tab.2.1
          refine ⟨fun j h1 h2 => ?_, by omega, by omega, by omega, by omega⟩
          rcases h2 with h2 | h2
          · omega
          · have := HN.out j (by have := HS.out.mv.tu.size; omega)
            omega
        have VW : Hid (VAt wr (fun j => (L0 j = 1000 ∧ w.heap.size ≤ j) ∨ wr.heap.size ≤ j) 3 a1 (l.map numV) cap1) := HS.out.va.mono (fun j _ e => .inl e)
        have hce : ((s.cl : Int) == (c : Int)) = true := by rw [beq_iff_eq, hcl]
        have HB : Hid (∃ bb gg, SpanAt wr p bb gg (s.pg : Int) (s.cl : Int) (s.bts : Int) s.f) := by obtain ⟨bb, gg, e, _⟩ := KS.out; exact ⟨bb, gg, e⟩
        obtain ⟨bb, gg, hbx⟩ := HB.out
        have BX : Hid (Bx wr p (s.pg : Int) (s.cl : Int) (s.bts : Int)) := hbx.box
        clear hbx HB
        go_wp2_with (first
          | (go_at_call 53; refine (class_any p _ _ _ _ BX.out).mono ?_; rintro e w2 ⟨rfl, rfl⟩)
          | (go_at_call 97; refine (kfill_q v p n1 s (fun j => L0 j = 5 + 2 * s.pg) (fun j => (L0 j = 1000 ∧ w.heap.size ≤ j) ∨ wr.heap.size ≤ j) a1 l cap1 W _ KS.out OK.out HS.out.cm.tab RT.out VW.out (fun j hj => .inr hj) APT.out (by rw [EN.out]; exact hn4) EN.out).mono ?_; rintro e w2 ⟨a2, cap2, n2, rfl, hn2, f1, f2, f3⟩; have EN2 : Hid ((l ++ (plS s zQ 0 s.st).take (4 - l.length)).length = n2) := hn2; have F : Hid (SomeW L0 cb fb hb (some ⟨g, 0, none⟩) cap ps sh P W m K v c L w w2 (A ++ [{ m[k] with st := someSt v (4 - l.length) m[k].st }]) (l ++ (plS m[k] zQ 0 m[k].st).take (4 - l.length)) (k + 1) a2 cap2) := HS.out.fill hlt hW hv hc (by rw [ES.out]; exact hcl) HN.out KP.out (by rw [ES.out]; exact f1) (by rw [ES.out]; exact f2) (by rw [ES.out]; exact f3); clear f1 f2 f3 hn2))
        go_roundw
        case rel => exact ⟨_, l ++ (plS m[k] zQ 0 m[k].st).take (4 - l.length), k + 1, a2, cap2, by rw [ES.out, EN2.out], by go_num, F.out⟩
        case measure => simp [intOf]; omega
      · have hce : ((s.cl : Int) == (c : Int)) = false := beq_eq_false_iff_ne.2 (by omega)
        have F : Hid (SomeW L0 cb fb hb (some ⟨g, 0, none⟩) cap ps sh P W m K v c L w wr (A ++ [m[k]]) l (k + 1) a1 cap1) := HS.out.skip hlt (by rw [ES.out]; exact hcl)
        obtain ⟨bb, gg, hbx, _⟩ := KS.out
        have BX : Hid (Bx wr p (s.pg : Int) (s.cl : Int) (s.bts : Int)) := hbx.box
        clear hbx
        go_wp2_with (go_at_call 53; refine (class_any p _ _ _ _ BX.out).mono ?_; rintro e w2 ⟨rfl, rfl⟩)
        go_roundw
        case rel => exact ⟨_, l, k + 1, a1, cap1, by rw [EN.out], by go_num, F.out⟩
        case measure => simp [intOf]; omega
    · obtain rfl : k = m.length := by omega
      obtain ⟨e1, e2⟩ := HS.out.at'.done HO.out.fit
      have CM := HS.out.cm
      rw [List.drop_length, List.append_nil, e2] at CM
      by_cases h0 : n1 = 0
      · subst h0
        have hl0 : l = [] := List.eq_nil_of_length_eq_zero EN.out
        have hf0 : freeP c m = [] := by
          rw [hl0] at e1
          rcases hq : freeP c m with _ | ⟨y, z⟩
          · rfl
          · rw [hq] at e1; simp at e1
        rw [some_none HO.out.fit hf0] at CM
        have CM' : Hid (Cm wr L0 cb fb hb a cap ps sh P W (pgF m) m K) := CM
        have HF0 : Hid (freeP c m = []) := hf0
        have MV : Hid (Mv L w L0 wr) := HS.out.mv
        have EK : Hid (pgsN (c : Int) ((0 : Nat) : Int) = 1) := by show pgsN (c : Int) ((0 : Nat) : Int) = 1; unfold pgsN; rw [if_neg (by omega)]
        clear CM e1 e2 hl0 hf0
        go_wp2_with fail
        refine (kbegin_any L0 cb fb hb a cap ps sh P W m K c 0 1 _ CM'.out HO.out (by omega) (fun _ => rfl) (fun e => by omega) EK.out).mono ?_
        intro e w2 hBP
        rcases hlay : layP P 1 0 m with _ | pg
        · rw [hlay] at hBP
          obtain ⟨rfl, L2, a2, cap2, ps2, sh2, C2, M2⟩ := hBP
          have CC : Hid (Cm w2 L2 cb fb hb a2 cap2 ps2 sh2 P W (pgF m) m K) := C2
          have MM : Hid (Mv L w L2 w2) := MV.out.trans M2
          have EE : Hid (R = ([], m)) := by show R = _; rw [← ER.out]; unfold someRes; rw [if_neg (by simp [HF0.out]), hlay]
          clear C2 M2 hlay
          go_wp2_with (go_at_call 97; refine (kfill_nil _).mono ?_; rintro e w3 ⟨rfl, rfl⟩)
          go_ret
          refine ⟨none, 0, L2, a2, cap2, ps2, sh2, by rw [EE.out]; rfl, by rw [EE.out]; exact CC.out, MM.out, by rw [EE.out]; exact VAt.nil _ _ _⟩
        · rw [hlay] at hBP
          obtain ⟨p, i, L2, a2, cap2, ps2, sh2, rfl, C2, M2, EI, hi, hp⟩ := hBP
          obtain ⟨L3, hL3⟩ : ∃ L3, lab L2 w2.heap.size 1000 = L3 := ⟨_, rfl⟩
          have E3 : Ext w2 L2 L3 := by rw [← hL3]; exact lab_ext _ _ _
          have N3 : ∀ j, w2.heap.size ≤ j → L3 j = 1000 := fun j hj => by rw [← hL3]; exact lab_new hj
          have C3 := C2.keep E3 (Below.refl _ _)
          obtain ⟨t, ht⟩ : ∃ t, fresh pg c 0 0 = t := ⟨_, rfl⟩
          have EI : ins t m = m.take i ++ t :: m.drop i := EI t (by rw [← ht]; rfl)
          rw [ht] at C3
          have hok : t.Ok W := by rw [← ht]; exact fresh_ok (by omega) (fun _ => rfl) (fun e => by omega) (by omega) (fun _ => by omega)
          have hkt : t.k = 1 := by rw [← ht]; exact EK.out
          have hpt : t.pg = pg := by rw [← ht]; rfl
          have hct : t.cl = c := by rw [← ht]; rfl
          have hfit : Fit W P 0 (ins t m) := Fit.lay hok HO.out.fit (by rw [hkt, hpt]; exact hlay)
          have hil : i < (ins t m).length := by rw [EI]; simp; omega
          have hgi : (ins t m)[i] = t := by
            have : (ins t m)[i]? = some t := by rw [EI, List.getElem?_append_right (by simp; omega)]; simp [Nat.min_eq_left hi]
            rw [List.getElem?_eq_getElem hil] at this
            exact Option.some.inj this
          obtain ⟨g9, p9, _, _, _, _, q1, q2⟩ := C3.at i hil
          rw [hgi] at q2
          obtain rfl : p9 = p := by rw [hp] at q1; exact (Option.some.inj q1).symm
          have RT : Hid (Rt (t.pg : Int) (t.cl : Int) (t.bts : Int)) := Sg.Ok.rt hfit hP (by have := List.getElem_mem hil; rw [hgi] at this; exact this)
          have KS : Hid (SpS w2 (fun j => L3 j = 5 + 2 * t.pg) p9 t) := q2
          have OK : Hid (t.Ok W) := hok
          have CC : Hid (Cm w2 L3 cb fb hb a2 cap2 ps2 sh2 P W (pgF (ins t m)) (ins t m) K) := C3
          have MM : Hid (Mv L w L3 w2) := (MV.out.trans M2).trans (Mv.below E3 (Below.refl _ _))
          have NN : Hid (∀ j, w2.heap.size ≤ j → L3 j = 1000) := N3
          have APT : Hid (Apt (fun j => L3 j = 5 + 2 * t.pg) (fun j => w2.heap.size ≤ j)) := by
            have := CC.out.l0
            have := CC.out.l1
            have := CC.out.tab.1.1
            have := CC.out.tab.2.1
            refine ⟨fun j h1 h2 => ?_, by omega, by omega, by omega, by omega⟩
            have := N3 j h2
            omega
          have GI : Hid (ps2[i]? = some p9 ∧ (ins t m)[i] = t) := ⟨hp, hgi⟩
          have FI : Hid (Fit W P 0 (ins t m)) := hfit
          have EII : Hid (ins t m = m.take i ++ t :: m.drop i) := EI
          have EE : Hid (R = ((freeP c (ins t m)).take 4, someM v c (ins t m))) := by show R = _; rw [← ER.out]; unfold someRes; rw [if_neg (by simp [HF0.out]), hlay]; show ((freeP c (ins (fresh pg c 0 0) m)).take 4, someM v c (ins (fresh pg c 0 0) m)) = _; rw [ht]
          have SZ : Hid (w.heap.size ≤ w2.heap.size) := MM.out.tu.size
          clear C2 M2 C3 EI hlay ht q1 q2 hok hfit hp E3 N3 hL3 hkt hpt
          go_wp2_with (go_at_call 97; refine (kfill_q v p9 0 t (fun j => L3 j = 5 + 2 * t.pg) (fun j => w2.heap.size ≤ j) none [] 0 W _ KS.out OK.out CC.out.tab RT.out (VAt.nil _ _ _) (fun j hj => hj) APT.out (by simp) rfl).mono ?_; rintro e w3 ⟨a3, cap3, n3, rfl, hn3, f1, f2, f3⟩; have F1 : Hid (SpS w3 (fun j => L3 j = 5 + 2 * t.pg) p9 { t with st := someSt v (4 - ([] : List Nat).length) t.st }) := f1; have F2 : Hid (VAt w3 (fun j => w2.heap.size ≤ j) 3 a3 ((([] : List Nat) ++ (plS t zQ 0 t.st).take (4 - ([] : List Nat).length)).map numV) cap3) := f2; have F3 : Hid (Tu (fun j => L3 j = 5 + 2 * t.pg ∨ w2.heap.size ≤ j) w2 w3) := f3; have EN3 : Hid ((([] : List Nat) ++ (plS t zQ 0 t.st).take (4 - ([] : List Nat).length)).length = n3) := hn3; clear f1 f2 f3 hn3)
          go_ret
          have hA : freeP c (m.take i) = [] ∧ freeP c (m.drop i) = [] := by
            have := HF0.out
            rw [← List.take_append_drop i m, freeP_append, List.append_eq_nil_iff] at this
            exact this
          have fit' := FI.out
          rw [EII.out] at fit'
          obtain ⟨o1, o2⟩ := some_one (v := v) (m := m) fit' hA.1 hA.2 hct
          rw [← EII.out] at o1 o2
          have e5 : someM v c (ins t m) = (ins t m).set i { (ins t m)[i] with st := someSt v 4 t.st } := by
            rw [o1, GI.out.2]
            conv => rhs; rw [EII.out]
            rw [set_mid (by simp; omega)]
          have hpl : i < ps2.length := by rw [CC.out.plen]; exact hil
          have hpe : ps2[i] = p9 := by have := GI.out.1; rw [List.getElem?_eq_getElem hpl] at this; exact Option.some.inj this
          have tu' : Tu (fun k => (L3 k = 5 + 2 * ((ins t m)[i]).pg ∨ L3 k = 1000) ∨ w2.heap.size ≤ k) w2 w3 := by
            rw [GI.out.2]; exact F3.out.mono (fun j _ hj => by rcases hj with e | e; exact .inl (.inl e); exact .inr e)
          have C5 := CC.out.spannedT FI.out hW i hil hpl (someSt v 4 t.st) tu' (by simp only [GI.out.2, hpe]; exact F1.out)
          rw [← e5, ← pgF_some v c (ins t m)] at C5
          have M5 : Mv L w L3 w3 := MM.out.trans (Mv.of (fun l => l = 5 + 2 * ((ins t m)[i]).pg ∨ l = 1000) (by omega) (Ext.refl _ _) tu')
          have V5 : VAt w3 (fun k => L3 k = 1000 ∧ w.heap.size ≤ k) 3 a3 (((freeP c (ins t m)).take 4).map numV) cap3 := by
            rw [o2]
            refine VAt.mono (S := fun j => w2.heap.size ≤ j) (by simpa using F2.out) (fun j _ e => ⟨NN.out j e, by have := SZ.out; omega⟩)
          have L5 : Hid (((freeP c (ins t m)).take 4).length = n3) := by show _ = _; rw [← EN3.out, o2]; simp
          refine ⟨a3, cap3, L3, a2, cap2, ps2, sh2, by rw [EE.out, L5.out]; rfl, by rw [EE.out]; exact C5, M5, by rw [EE.out]; exact V5⟩
      · have EE : Hid (R = (l, someM v c m)) := by
          show R = _
          rw [← ER.out]; unfold someRes
          have : freeP c m ≠ [] := fun e => by rw [e] at e1; have := EN.out; rw [e1] at this; simp at this; omega
          rw [if_pos this, ← e1]
        have CC : Hid (Cm wr L0 cb fb hb a cap ps sh P W (pgF (someM v c m)) (someM v c m) K) := by rw [pgF_some]; exact CM
        have h0' : (0 : Int) < (n1 : Int) := by omega
        clear CM e1 e2
        go_wp2
        go_ret
        refine ⟨a1, cap1, L0, a, cap, ps, sh, by rw [EE.out, EN.out]; rfl, by rw [EE.out]; exact CC.out, HS.out.mv, by rw [EE.out]; exact HS.out.va⟩
end Go.Proofs.YtgmljgogmbaioaaGreatDoor
