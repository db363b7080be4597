/- Layer 15: KaI again -/
import Derived.Test.YtgdjlopnhecmjaaGreatDoorGzAS
import Derived.Test.YtgdjlopnhecmjaaGreatDoorGzAJ
import Derived.Test.YtgdjlopnhecmjaaGreatDoorGzAP
namespace Go.Proofs.YtgdjlopnhecmjaaGreatDoor
open Go.RowKit
set_option linter.unusedVariables false
set_option maxRecDepth 4000
theorem SomeW.skip {L0 : Nat → Nat} {cb fb hb : Nat} {a : Option Addr} {cap : Nat} {ps : List Nat} {sh : List Value} {P W : Nat} {m : List Sg} {K : Nat → Nat → List Nat} {v c : Nat} {L : Nat → Nat} {w wr : World} {A : List Sg} {l : List Nat} {k : Nat} {a1 : Option Addr} {cap1 : Nat} (h : SomeW L0 cb fb hb a cap ps sh P W m K v c L w wr A l k a1 cap1) (hk : k < m.length) (hc : m[k].cl ≠ c) :
    SomeW L0 cb fb hb a cap ps sh P W m K v c L w wr (A ++ [m[k]]) l (k + 1) a1 cap1 := by
  have e : (A ++ [m[k]]) ++ m.drop (k + 1) = A ++ m.drop k := by rw [List.drop_eq_getElem_cons hk]; simp
  exact ⟨by rw [e]; exact h.cm, by rw [e]; exact h.fit, h.at'.skip hk hc, h.va, h.mv⟩
/-- What takeSome leaves. -/
def SomeP (L : Nat → Nat) (w : World) (cb fb hb P W : Nat) (K : Nat → Nat → List Nat) (r : List Nat × List Sg) (e : Ending) (w' : World) : Prop :=
  ∃ (a' : Option Addr) (cap' : Nat) (L' : Nat → Nat) (a : Option Addr) (cap : Nat) (ps : List Nat) (sh : List Value), e = .returned (.slice a' r.1.length cap') ∧ Cm w' L' cb fb hb a cap ps sh P W (pgF r.2) r.2 K ∧ cMv L w L' w' ∧ VAt w' (fun k => L' k = 1000 ∧ w.heap.size ≤ k) 3 a' (r.1.map numV) cap'
theorem pgF_some (v c : Nat) (m : List Sg) : pgF (someM v c m) = pgF m := pgF_turn _ _
set_option maxHeartbeats 2000000 in
theorem ksome_any (L : Nat → Nat) (cb fb hb : Nat) (a : Option Addr) (cap : Nat) (ps : List Nat) (sh : List Value) (P W : Nat) (m : List Sg) (K : Nat → Nat → List Nat) (v c : Nat) (w : World) (h : Cm w L cb fb hb a cap ps sh P W (pgF m) m K) (ho : Okc P W m) (hv : v < W) (hc : c < 7) :
    Calls Tryz.prog 195 #[.pointer (some ⟨cb, 0, none⟩), .int .i64 (c : Nat)] w (SomeP L w cb fb hb P W K (someRes P v c m)) := by
  have hW := ho.w1
  have hP := ho.p1
  have hml := ho.fit.len
  have HO : Hid (Okc P W m) := ho
  obtain ⟨L0, hL0⟩ : ∃ L0, lab L w.heap.size 1000 = L0 := ⟨_, rfl⟩
  have HE : Hid (Ext w L L0) := by rw [← hL0]; exact lab_ext w L 1000
  have HN : Hid (∀ j, w.heap.size ≤ j → L0 j = 1000) := fun j hj => by rw [← hL0]; exact lab_new hj
  have S0 : Hid (SomeW L0 cb fb hb a cap ps sh P W m K v c L w w [] [] 0 none 0) := ⟨h.keep HE.out (Below.refl _ _), ho.fit, SomeAt.start v c m, VAt.nil _ _ _, ⟨HE.out, Tu.refl _ _⟩⟩
  have c1 := h.cell1
  obtain ⟨R, hR⟩ : ∃ R, someRes P v c m = R := ⟨_, rfl⟩
  have ER : Hid (someRes P v c m = R) := hR
  rw [hR]
  clear h ho hL0 hR
  go_enter Tryz.func195, Tryz.ntmps195
  go_wp2
  go_loopw [5, 13] (fun av iv wr => ∃ (A : List Sg) (l : List Nat) (k : Nat) (a1 : Option Addr) (cap1 : Nat), av = .slice a1 l.length cap1 ∧ iv = .int .i64 (k : Nat) ∧ SomeW L0 cb fb hb a cap ps sh P W m K v c L w wr A l k a1 cap1) (fun _ iv _ => m.length - (intOf iv).toNat)
  case atStart => exact ⟨[], [], 0, none, 0, rfl, rfl, S0.out⟩
  case round =>
    obtain ⟨A, l, k, a1, cap1, rfl, rfl, hS⟩ := hrel
    rename World => wr
    have HS : Hid (SomeW L0 cb fb hb a cap ps sh P W m K v c L w wr A l k a1 cap1) := hS
    have hk := hS.at'.lek
    obtain ⟨n1, hn1⟩ : ∃ n1, l.length = n1 := ⟨_, rfl⟩
    have EN : Hid (l.length = n1) := hn1
    have hn4 := hS.at'.four
    rw [hn1] at hn4 ⊢
    clear hS c1 hn1
    by_cases hlt : k < m.length
    · have hlt' : (k : Int) < (m.length : Int) := by omega
      have hk0 : (0 : Int) ≤ (k : Int) := by omega
      obtain ⟨hk', hg⟩ := HS.out.get hlt
      obtain ⟨g, p, rfl, _, _, k1, k2, k3⟩ := HS.out.cm.at k hk'
      rw [hg] at k3
      have OK0 := (HO.out.fit.ok _ (List.getElem_mem hlt)).1
      have RT0 := Sg.Ok.rt HO.out.fit HO.out.p1 (List.getElem_mem hlt)
      obtain ⟨s, hs⟩ : ∃ s, m[k] = s := ⟨_, rfl⟩
      have ES : Hid (m[k] = s) := hs
      rw [hs] at k3 OK0 RT0
      have KS : Hid (SpS wr (fun j => L0 j = 5 + 2 * s.pg) p s) := k3
      have KP : Hid (ps[k]? = some p) := k2
      have OK : Hid (s.Ok W) := OK0
      have RT : Hid (Rt (s.pg : Int) (s.cl : Int) (s.bts : Int)) := RT0
      clear k3 k2 OK0 RT0 hs hg hk'
      by_cases hcl : s.cl = c
      · have APT : Hid (Apt (fun j => L0 j = 5 + 2 * s.pg) (fun j => (L0 j = 1000 ∧ w.heap.size ≤ j) ∨ wr.heap.size ≤ j)) := by
          have := HS.out.cm.l0
          have := HS.out.cm.l1
          have := HS.out.cm.tab.1.1
          have := HS.out.cm.tab.2.1
          refine ⟨fun j h1 h2 => ?_, by omega, by omega, by omega, by omega⟩
          rcases h2 with h2 | h2
          · omega
          · have := HN.out j (by have := HS.out.mv.tu.size; omega)
            omega
        have VW : Hid (VAt wr (fun j => (L0 j = 1000 ∧ w.heap.size ≤ j) ∨ wr.heap.size ≤ j) 3 a1 (l.map numV) cap1) := HS.out.va.mono (fun j _ e => .inl e)
        have hce : ((s.cl : Int) == (c : Int)) = true := by rw [beq_iff_eq, hcl]
        have HB : Hid (∃ bb gg, SpanAt wr p bb gg (s.pg : Int) (s.cl : Int) (s.bts : Int) s.f) := by obtain ⟨bb, gg, e, _⟩ := KS.out; exact ⟨bb, gg, e⟩
        obtain ⟨bb, gg, hbx⟩ := HB.out
        have BX : Hid (Bx wr p (s.pg : Int) (s.cl : Int) (s.bts : Int)) := hbx.box
        clear hbx HB
        go_wp2_with (first
          | (go_at_call 154; refine (class_any p _ _ _ _ BX.out).mono ?_; rintro e w2 ⟨rfl, rfl⟩)
          | (go_at_call 192; refine (kfill_q v p n1 s (fun j => L0 j = 5 + 2 * s.pg) (fun j => (L0 j = 1000 ∧ w.heap.size ≤ j) ∨ wr.heap.size ≤ j) a1 l cap1 W _ KS.out OK.out HS.out.cm.tab RT.out VW.out (fun j hj => .inr hj) APT.out (by rw [EN.out]; exact hn4) EN.out).mono ?_; rintro e w2 ⟨a2, cap2, n2, rfl, hn2, f1, f2, f3⟩; have EN2 : Hid ((l ++ (plS s zQ 0 s.st).take (4 - l.length)).length = n2) := hn2; have F : Hid (SomeW L0 cb fb hb (some ⟨g, 0, none⟩) cap ps sh P W m K v c L w w2 (A ++ [{ m[k] with st := someSt v (4 - l.length) m[k].st }]) (l ++ (plS m[k] zQ 0 m[k].st).take (4 - l.length)) (k + 1) a2 cap2) := HS.out.fill hlt hW hv hc (by rw [ES.out]; exact hcl) HN.out KP.out (by rw [ES.out]; exact f1) (by rw [ES.out]; exact f2) (by rw [ES.out]; exact f3); clear f1 f2 f3 hn2))
        go_roundw
        case rel => exact ⟨_, l ++ (plS m[k] zQ 0 m[k].st).take (4 - l.length), k + 1, a2, cap2, by rw [ES.out, EN2.out], by go_num, F.out⟩
        case measure => simp [intOf]; omega
      · have hce : ((s.cl : Int) == (c : Int)) = false := beq_eq_false_iff_ne.2 (by omega)
        have F : Hid (SomeW L0 cb fb hb (some ⟨g, 0, none⟩) cap ps sh P W m K v c L w wr (A ++ [m[k]]) l (k + 1) a1 cap1) := HS.out.skip hlt (by rw [ES.out]; exact hcl)
        obtain ⟨bb, gg, hbx, _⟩ := KS.out
        have BX : Hid (Bx wr p (s.pg : Int) (s.cl : Int) (s.bts : Int)) := hbx.box
        clear hbx
        go_wp2_with (go_at_call 154; refine (class_any p _ _ _ _ BX.out).mono ?_; rintro e w2 ⟨rfl, rfl⟩)
        go_roundw
        case rel => exact ⟨_, l, k + 1, a1, cap1, by rw [EN.out], by go_num, F.out⟩
        case measure => simp [intOf]; omega
    · obtain rfl : k = m.length := by omega
      obtain ⟨e1, e2⟩ := HS.out.at'.done HO.out.fit
      have CM := HS.out.cm
      rw [List.drop_length, List.append_nil, e2] at CM
      by_cases h0 : n1 = 0
      · subst h0
        have hl0 : l = [] := List.eq_nil_of_length_eq_zero EN.out
        have hf0 : freeP c m = [] := by
          rw [hl0] at e1
          rcases hq : freeP c m with _ | ⟨y, z⟩
          · rfl
          · rw [hq] at e1; simp at e1
        rw [some_none HO.out.fit hf0] at CM
        have CM' : Hid (Cm wr L0 cb fb hb a cap ps sh P W (pgF m) m K) := CM
        have HF0 : Hid (freeP c m = []) := hf0
        have MV : Hid (cMv L w L0 wr) := HS.out.mv
        have EK : Hid (pgsN (c : Int) ((0 : Nat) : Int) = 1) := by show pgsN (c : Int) ((0 : Nat) : Int) = 1; unfold pgsN; rw [if_neg (by omega)]
        clear CM e1 e2 hl0 hf0
        go_wp2_with fail
        refine (kbegin_any L0 cb fb hb a cap ps sh P W m K c 0 1 _ CM'.out HO.out (by omega) (fun _ => rfl) (fun e => by omega) EK.out).mono ?_
        intro e w2 hBP
        rcases hlay : layP P 1 0 m with _ | pg
        · rw [hlay] at hBP
          obtain ⟨rfl, L2, a2, cap2, ps2, sh2, C2, M2⟩ := hBP
          have CC : Hid (Cm w2 L2 cb fb hb a2 cap2 ps2 sh2 P W (pgF m) m K) := C2
          have MM : Hid (cMv L w L2 w2) := MV.out.trans M2
          have EE : Hid (R = ([], m)) := by show R = _; rw [← ER.out]; unfold someRes; rw [if_neg (by simp [HF0.out]), hlay]
          clear C2 M2 hlay
          go_wp2_with (go_at_call 192; refine (kfill_nil _).mono ?_; rintro e w3 ⟨rfl, rfl⟩)
          go_ret
          refine ⟨none, 0, L2, a2, cap2, ps2, sh2, by rw [EE.out]; rfl, by rw [EE.out]; exact CC.out, MM.out, by rw [EE.out]; exact VAt.nil _ _ _⟩
        · rw [hlay] at hBP
          obtain ⟨p, i, L2, a2, cap2, ps2, sh2, rfl, C2, M2, EI, hi, hp⟩ := hBP
          obtain ⟨L3, hL3⟩ : ∃ L3, lab L2 w2.heap.size 1000 = L3 := ⟨_, rfl⟩
          have E3 : Ext w2 L2 L3 := by rw [← hL3]; exact lab_ext _ _ _
          have N3 : ∀ j, w2.heap.size ≤ j → L3 j = 1000 := fun j hj => by rw [← hL3]; exact lab_new hj
          have C3 := C2.keep E3 (Below.refl _ _)
          obtain ⟨t, ht⟩ : ∃ t, fresh pg c 0 0 = t := ⟨_, rfl⟩
          have EI : ins t m = m.take i ++ t :: m.drop i := EI t (by rw [← ht]; rfl)
          rw [ht] at C3
          have hok : t.Ok W := by rw [← ht]; exact fresh_ok (by omega) (fun _ => rfl) (fun e => by omega) (by omega) (fun _ => by omega)
          have hkt : t.k = 1 := by rw [← ht]; exact EK.out
          have hpt : t.pg = pg := by rw [← ht]; rfl
          have hct : t.cl = c := by rw [← ht]; rfl
          have hfit : Fit W P 0 (ins t m) := Fit.lay hok HO.out.fit (by rw [hkt, hpt]; exact hlay)
          have hil : i < (ins t m).length := by rw [EI]; simp; omega
          have hgi : (ins t m)[i] = t := by
            have : (ins t m)[i]? = some t := by rw [EI, List.getElem?_append_right (by simp; omega)]; simp [Nat.min_eq_left hi]
            rw [List.getElem?_eq_getElem hil] at this
            exact Option.some.inj this
          obtain ⟨g9, p9, _, _, _, _, q1, q2⟩ := C3.at i hil
          rw [hgi] at q2
          obtain rfl : p9 = p := by rw [hp] at q1; exact (Option.some.inj q1).symm
          have RT : Hid (Rt (t.pg : Int) (t.cl : Int) (t.bts : Int)) := Sg.Ok.rt hfit hP (by have := List.getElem_mem hil; rw [hgi] at this; exact this)
          have KS : Hid (SpS w2 (fun j => L3 j = 5 + 2 * t.pg) p9 t) := q2
          have OK : Hid (t.Ok W) := hok
          have CC : Hid (Cm w2 L3 cb fb hb a2 cap2 ps2 sh2 P W (pgF (ins t m)) (ins t m) K) := C3
          have MM : Hid (cMv L w L3 w2) := (MV.out.trans M2).trans (cMv.below E3 (Below.refl _ _))
          have NN : Hid (∀ j, w2.heap.size ≤ j → L3 j = 1000) := N3
          have APT : Hid (Apt (fun j => L3 j = 5 + 2 * t.pg) (fun j => w2.heap.size ≤ j)) := by
            have := CC.out.l0
            have := CC.out.l1
            have := CC.out.tab.1.1
            have := CC.out.tab.2.1
            refine ⟨fun j h1 h2 => ?_, by omega, by omega, by omega, by omega⟩
            have := N3 j h2
            omega
          have GI : Hid (ps2[i]? = some p9 ∧ (ins t m)[i] = t) := ⟨hp, hgi⟩
          have FI : Hid (Fit W P 0 (ins t m)) := hfit
          have EII : Hid (ins t m = m.take i ++ t :: m.drop i) := EI
          have EE : Hid (R = ((freeP c (ins t m)).take 4, someM v c (ins t m))) := by show R = _; rw [← ER.out]; unfold someRes; rw [if_neg (by simp [HF0.out]), hlay]; show ((freeP c (ins (fresh pg c 0 0) m)).take 4, someM v c (ins (fresh pg c 0 0) m)) = _; rw [ht]
          have SZ : Hid (w.heap.size ≤ w2.heap.size) := MM.out.tu.size
          clear C2 M2 C3 EI hlay ht q1 q2 hok hfit hp E3 N3 hL3 hkt hpt
          go_wp2_with (go_at_call 192; refine (kfill_q v p9 0 t (fun j => L3 j = 5 + 2 * t.pg) (fun j => w2.heap.size ≤ j) none [] 0 W _ KS.out OK.out CC.out.tab RT.out (VAt.nil _ _ _) (fun j hj => hj) APT.out (by simp) rfl).mono ?_; rintro e w3 ⟨a3, cap3, n3, rfl, hn3, f1, f2, f3⟩; have F1 : Hid (SpS w3 (fun j => L3 j = 5 + 2 * t.pg) p9 { t with st := someSt v (4 - ([] : List Nat).length) t.st }) := f1; have F2 : Hid (VAt w3 (fun j => w2.heap.size ≤ j) 3 a3 ((([] : List Nat) ++ (plS t zQ 0 t.st).take (4 - ([] : List Nat).length)).map numV) cap3) := f2; have F3 : Hid (Tu (fun j => L3 j = 5 + 2 * t.pg ∨ w2.heap.size ≤ j) w2 w3) := f3; have EN3 : Hid ((([] : List Nat) ++ (plS t zQ 0 t.st).take (4 - ([] : List Nat).length)).length = n3) := hn3; clear f1 f2 f3 hn3)
          go_ret
          have hA : freeP c (m.take i) = [] ∧ freeP c (m.drop i) = [] := by
            have := HF0.out
            rw [← List.take_append_drop i m, freeP_append, List.append_eq_nil_iff] at this
            exact this
          have fit' := FI.out
          rw [EII.out] at fit'
          obtain ⟨o1, o2⟩ := some_one (v := v) (m := m) fit' hA.1 hA.2 hct
          rw [← EII.out] at o1 o2
          have e5 : someM v c (ins t m) = (ins t m).set i { (ins t m)[i] with st := someSt v 4 t.st } := by
            rw [o1, GI.out.2]
            conv => rhs; rw [EII.out]
            rw [set_mid (by simp; omega)]
          have hpl : i < ps2.length := by rw [CC.out.plen]; exact hil
          have hpe : ps2[i] = p9 := by have := GI.out.1; rw [List.getElem?_eq_getElem hpl] at this; exact Option.some.inj this
          have tu' : Tu (fun k => (L3 k = 5 + 2 * ((ins t m)[i]).pg ∨ L3 k = 1000) ∨ w2.heap.size ≤ k) w2 w3 := by
            rw [GI.out.2]; exact F3.out.mono (fun j _ hj => by rcases hj with e | e; exact .inl (.inl e); exact .inr e)
          have C5 := CC.out.spannedT FI.out hW i hil hpl (someSt v 4 t.st) tu' (by simp only [GI.out.2, hpe]; exact F1.out)
          rw [← e5, ← pgF_some v c (ins t m)] at C5
          have M5 : cMv L w L3 w3 := MM.out.trans (cMv.of (fun l => l = 5 + 2 * ((ins t m)[i]).pg ∨ l = 1000) (by omega) (Ext.refl _ _) tu')
          have V5 : VAt w3 (fun k => L3 k = 1000 ∧ w.heap.size ≤ k) 3 a3 (((freeP c (ins t m)).take 4).map numV) cap3 := by
            rw [o2]
            refine VAt.mono (S := fun j => w2.heap.size ≤ j) (by simpa using F2.out) (fun j _ e => ⟨NN.out j e, by have := SZ.out; omega⟩)
          have L5 : Hid (((freeP c (ins t m)).take 4).length = n3) := by show _ = _; rw [← EN3.out, o2]; simp
          refine ⟨a3, cap3, L3, a2, cap2, ps2, sh2, by rw [EE.out, L5.out]; rfl, by rw [EE.out]; exact C5, M5, by rw [EE.out]; exact V5⟩
      · have EE : Hid (R = (l, someM v c m)) := by
          show R = _
          rw [← ER.out]; unfold someRes
          have : freeP c m ≠ [] := fun e => by rw [e] at e1; have := EN.out; rw [e1] at this; simp at this; omega
          rw [if_pos this, ← e1]
        have CC : Hid (Cm wr L0 cb fb hb a cap ps sh P W (pgF (someM v c m)) (someM v c m) K) := by rw [pgF_some]; exact CM
        have h0' : (0 : Int) < (n1 : Int) := by omega
        clear CM e1 e2
        go_wp2
        go_ret
        refine ⟨a1, cap1, L0, a, cap, ps, sh, by rw [EE.out, EN.out]; rfl, by rw [EE.out]; exact CC.out, HS.out.mv, by rw [EE.out]; exact HS.out.va⟩
end Go.Proofs.YtgdjlopnhecmjaaGreatDoor

/- Layer 15: CaY again -/
namespace Go.Proofs.YtgdjlopnhecmjaaGreatDoor
set_option linter.unusedVariables false
set_option maxRecDepth 4000
/-- Rising lists with the same members are one. -/
theorem rises_eq : ∀ {l l' : List Nat}, l.Pairwise (· < ·) → l'.Pairwise (· < ·) → (∀ x, x ∈ l ↔ x ∈ l') → l = l'
  | [], [], _, _, _ => rfl
  | [], y :: l', _, _, h => by have := (h y).2 List.mem_cons_self; cases this
  | x :: l, [], _, _, h => by have := (h x).1 List.mem_cons_self; cases this
  | x :: l, y :: l', h1, h2, h => by
    rw [List.pairwise_cons] at h1 h2
    have e : x = y := by
      rcases List.mem_cons.1 ((h x).1 List.mem_cons_self) with e | e
      · exact e
      · rcases List.mem_cons.1 ((h y).2 List.mem_cons_self) with e' | e'
        · exact e'.symm
        · have := h1.1 y e'; have := h2.1 x e; omega
    subst e
    congr 1
    refine rises_eq h1.2 h2.2 (fun z => ?_)
    constructor
    · intro hz
      rcases List.mem_cons.1 ((h z).1 (List.mem_cons_of_mem _ hz)) with e | e
      · have := h1.1 z hz; omega
      · exact e
    · intro hz
      rcases List.mem_cons.1 ((h z).2 (List.mem_cons_of_mem _ hz)) with e | e
      · have := h2.1 z hz; omega
      · exact e
theorem kept_is {W P a0 v c : Nat} {m : List Sg} (hf : Fit W P a0 m) {l : List Nat} (hl : l.Pairwise (· < ·)) (h : ∀ a, a ∈ l ↔ ∃ z, In m a z c (v + 2)) : keptM v c m = l :=
  rises_eq (pl_rises _ hf) hl (fun x => by rw [mem_keptM, h])
/-- One list is another. -/
def upd (K : Nat → Nat → List Nat) (v c : Nat) (l : List Nat) : Nat → Nat → List Nat := fun v' c' => if v' = v ∧ c' = c then l else K v' c'
theorem cupd_at (K : Nat → Nat → List Nat) (v c : Nat) (l : List Nat) : upd K v c l v c = l := if_pos ⟨rfl, rfl⟩
/-- What workers keep is what the slots say. -/
def Kf (m : List Sg) : Nat → Nat → List Nat := fun v c => keptM v c m
theorem kof_some {W P v c : Nat} {m : List Sg} (hf : Fit W P 0 m) (hv : v < W) (hc : c < 7) (h0 : keptM v c m = []) : Kf (someM v c m) = upd (Kf m) v c ((freeP c m).take 4) := by
  have hf' := hf.someM v c hv hc
  funext v' c'
  unfold upd Kf
  have hin : ∀ a z x, In (someM v c m) a z c' x ↔ (a ∈ (freeP c m).take 4 ∧ x = v + 2 ∧ ∃ y, In m a z c' y) ∨ (a ∉ (freeP c m).take 4 ∧ In m a z c' x) := fun a z x => sets_in
  have hfree : ∀ a, a ∈ (freeP c m).take 4 → ∃ z, In m a z c 0 := fun a ha => mem_freeP.1 (List.mem_of_mem_take ha)
  split
  · rename_i e
    obtain ⟨rfl, rfl⟩ := e
    refine kept_is hf' ((pl_rises _ hf).sublist (List.take_sublist _ _)) (fun a => ?_)
    constructor
    · intro ha
      obtain ⟨z, hz⟩ := hfree a ha
      exact ⟨z, (hin a z _).2 (.inl ⟨ha, rfl, 0, hz⟩)⟩
    · rintro ⟨z, h⟩
      rcases (hin a z _).1 h with ⟨h1, _⟩ | ⟨_, h1⟩
      · exact h1
      · have : a ∈ keptM v' c' m := mem_keptM.2 ⟨z, h1⟩
        rw [h0] at this; cases this
  · rename_i hne
    refine kept_is hf' (pl_rises _ hf) (fun a => ?_)
    rw [mem_keptM]
    constructor
    · rintro ⟨z, hz⟩
      refine ⟨z, (hin a z _).2 (.inr ⟨fun ha => ?_, hz⟩)⟩
      obtain ⟨z', h'⟩ := hfree a ha
      have := (hz.one hf h').2.2; omega
    · rintro ⟨z, h⟩
      rcases (hin a z _).1 h with ⟨h1, h2, y, h3⟩ | ⟨_, h1⟩
      · obtain ⟨z', h'⟩ := hfree a h1
        have := (h3.one hf h').2.1
        exact absurd ⟨by omega, this⟩ hne
      · exact ⟨z, h1⟩
theorem kof_ins {W P : Nat} {m : List Sg} {p c b x : Nat} (hx : x ≤ 1) (hf : Fit W P 0 (ins (fresh p c b x) m)) (hf0 : Fit W P 0 m) : Kf (ins (fresh p c b x) m) = Kf m := by
  funext v' c'
  refine kept_is hf (pl_rises _ hf0) (fun a => ?_)
  show a ∈ keptM v' c' m ↔ _
  rw [mem_keptM]
  constructor
  · rintro ⟨z, hz⟩; exact ⟨z, ins_in.2 (.inr hz)⟩
  · rintro ⟨z, hz⟩
    rcases ins_in.1 hz with h | h
    · have := (fresh_in h).1; omega
    · exact ⟨z, h⟩
/-- A slot that was kept is taken. -/
theorem kof_take {W P v c a : Nat} {l : List Nat} {m : List Sg} (hf : Fit W P 0 m) (hW : v < W) (h : keptM v c m = a :: l) : Kf (setM a 1 m) = upd (Kf m) v c l ∧ Fit W P 0 (setM a 1 m) := by
  have hr : (a :: l).Pairwise (· < ·) := by rw [← h]; exact pl_rises _ hf
  obtain ⟨z0, hz0⟩ := mem_keptM.1 (show a ∈ keptM v c m by rw [h]; exact List.mem_cons_self)
  have hf' : Fit W P 0 (setM a 1 m) := hf.set a 1 (by omega) (fun _ _ _ _ _ => by omega)
  refine ⟨?_, hf'⟩
  funext v' c'
  unfold upd Kf
  have hmem : ∀ x, x ∈ keptM v c m ↔ x = a ∨ x ∈ l := fun x => by rw [h, List.mem_cons]
  have hna : a ∉ l := fun e => by have := (List.pairwise_cons.1 hr).1 a e; omega
  split
  · rename_i e
    obtain ⟨rfl, rfl⟩ := e
    refine kept_is hf' (List.pairwise_cons.1 hr).2 (fun x => ?_)
    constructor
    · intro hx
      obtain ⟨z, hz⟩ := mem_keptM.1 ((hmem x).2 (.inr hx))
      exact ⟨z, set_in.2 (.inr ⟨fun e => hna (e ▸ hx), hz⟩)⟩
    · rintro ⟨z, hz⟩
      rcases set_in.1 hz with ⟨_, e, _⟩ | ⟨hne, hz⟩
      · omega
      · rcases (hmem x).1 (mem_keptM.2 ⟨z, hz⟩) with e | e
        · exact absurd e hne
        · exact e
  · rename_i hne
    refine kept_is hf' (pl_rises _ hf) (fun x => ?_)
    rw [mem_keptM]
    constructor
    · rintro ⟨z, hz⟩
      refine ⟨z, set_in.2 (.inr ⟨fun e => ?_, hz⟩)⟩
      subst e
      have := hz0.one hf hz
      exact hne ⟨by omega, this.2.1.symm⟩
    · rintro ⟨z, hz⟩
      rcases set_in.1 hz with ⟨_, e, _⟩ | ⟨_, hz⟩
      · omega
      · exact ⟨z, hz⟩
/-- What Take does to a small class, by the lists. -/
theorem fill_res {W P v c : Nat} {m : List Sg} (ho : Fit W P 0 m) (hv : v < W) (hc : c < 7) (h0 : keptM v c m = []) : Kf (someRes P v c m).2 = upd (Kf m) v c (someRes P v c m).1 ∧ Fit W P 0 (someRes P v c m).2 ∧ fillM P v c m = (if (someRes P v c m).1 = [] then none else some (someRes P v c m).2) := by
  have hslots : ∀ p, freeP c (ins (fresh p c 0 0) m) ≠ [] := fun p e => by
    have hs : 1 ≤ slN (c : Int) := by
      have := (fresh_ok (W := W) (p := p) (c := c) (b := 0) (x := 0) (by omega) (fun _ => rfl) (fun e => by omega) (by omega) (fun _ => by omega)).facts.1
      simpa [fresh] using this
    have : (fresh p c 0 0).at 0 ∈ freeP c (ins (fresh p c 0 0) m) := mem_freeP.2 ⟨(fresh p c 0 0).z, ins_in.2 (.inl ⟨0, by show (List.replicate (slN (c : Int)) 0)[0]? = some 0; rw [List.getElem?_replicate, if_pos (by omega)], rfl, rfl, rfl⟩)⟩
    rw [e] at this; cases this
  have take_ne : ∀ l : List Nat, l ≠ [] → l.take 4 ≠ [] := fun l h e => by
    cases l with
    | nil => exact h rfl
    | cons x l => simp at e
  by_cases hfr : freeP c m = []
  · have eR : someRes P v c m = match layP P 1 0 m with
        | none => ([], m)
        | some p => ((freeP c (ins (fresh p c 0 0) m)).take 4, someM v c (ins (fresh p c 0 0) m)) := by unfold someRes; rw [if_neg (by simp [hfr])]; cases layP P 1 0 m <;> rfl
    have eF : fillM P v c m = (layP P 1 0 m).map (fun p => someM v c (ins (fresh p c 0 0) m)) := by unfold fillM; rw [if_neg (by simp [h0]), if_neg (by simp [hfr])]
    rw [eR, eF]
    rcases hl : layP P 1 0 m with _ | p
    · refine ⟨?_, ho, by simp⟩
      funext v' c'
      show keptM v' c' m = upd (Kf m) v c [] v' c'
      unfold upd Kf
      split
      · rename_i e; obtain ⟨rfl, rfl⟩ := e; exact h0
      · rfl
    · have ok : (fresh p c 0 0).Ok W := fresh_ok (by omega) (fun _ => rfl) (fun e => by omega) (by omega) (fun _ => by omega)
      have hk : (fresh p c 0 0).k = 1 := by show pgsN (c : Int) ((0 : Nat) : Int) = 1; unfold pgsN; rw [if_neg (by omega)]
      have hf' : Fit W P 0 (ins (fresh p c 0 0) m) := Fit.lay ok ho (by rw [hk]; exact hl)
      have hK := kof_ins (Nat.zero_le 1) hf' ho
      have h0' : keptM v c (ins (fresh p c 0 0) m) = [] := by have := congrFun (congrFun hK v) c; unfold Kf at this; rw [this]; exact h0
      refine ⟨?_, hf'.someM v c hv hc, ?_⟩
      · show Kf (someM v c (ins (fresh p c 0 0) m)) = upd (Kf m) v c ((freeP c (ins (fresh p c 0 0) m)).take 4)
        rw [kof_some hf' hv hc h0', hK]
      · show some _ = if (freeP c (ins (fresh p c 0 0) m)).take 4 = [] then none else some (someM v c (ins (fresh p c 0 0) m))
        rw [if_neg (take_ne _ (hslots p))]
  · have eR : someRes P v c m = ((freeP c m).take 4, someM v c m) := by unfold someRes; rw [if_pos hfr]
    have eF : fillM P v c m = some (someM v c m) := by unfold fillM; rw [if_neg (by simp [h0]), if_pos hfr]
    rw [eR, eF]
    exact ⟨kof_some ho hv hc h0, ho.someM v c hv hc, by rw [if_neg (take_ne _ hfr)]⟩
/-- What is taken stays taken. -/
theorem turn_f {g : Nat → Nat → Nat → Nat} {s : Sg} (h : ∀ j x, s.st[j]? = some x → (g (s.at j) s.cl x = 0 ↔ x = 0)) : (s.turn g).f = s.f := by
  funext j
  have e : (s.turn g).st[j]? = (s.st[j]?).map (fun x => g (s.at j) s.cl x) := by
    show (gS g s 0 s.st)[j]? = _
    rw [gS_at]; simp
  unfold Sg.f
  rw [decide_eq_decide]
  simp only [List.getD, e]
  cases hx : s.st[j]? with
  | none => rfl
  | some x =>
    have := h j x hx
    show g (s.at j) s.cl x ≠ 0 ↔ x ≠ 0
    omega
end Go.Proofs.YtgdjlopnhecmjaaGreatDoor

/- Layer 15: KaJ again -/
namespace Go.Proofs.YtgdjlopnhecmjaaGreatDoor
open Go.RowKit
set_option linter.unusedVariables false
set_option maxRecDepth 4000
theorem kof_is (m : List Sg) : Kof m = Kf m := rfl
/-- What a worker keeps of a class is another list. -/
theorem Cm.shelf_put {w w1 : World} {L L' : Nat → Nat} {cb fb hb : Nat} {a : Option Addr} {cap : Nat} {ps : List Nat} {sh : List Value} {P W : Nat} {φ : Nat → Bool} {m : List Sg} {K : Nat → Nat → List Nat} (h : Cm w L cb fb hb a cap ps sh P W φ m K) (hL : Ext w L L') (v c : Nat) (hv : v < W) (hc : c < 7) (ht : Tu (fun k => L k = 6 + 2 * (v * 7 + c) ∨ w.heap.size ≤ k) w w1) (a1 : Option Addr) (l1 : List Nat) (cap1 : Nat) (hva : VAt w1 (fun k => L' k = 6 + 2 * (v * 7 + c)) 3 a1 (l1.map numV) cap1) :
    Cm (w1.setCell ⟨hb, v * 7 + c, none⟩ (.slice a1 l1.length cap1)) L' cb fb hb a cap ps (sh.set (v * 7 + c) (.slice a1 l1.length cap1)) P W φ m (upd K v c l1) ∧ cMv L w L' (w1.setCell ⟨hb, v * 7 + c, none⟩ (.slice a1 l1.length cap1)) := by
  have hhb := hlt h.hrow
  have hlh := h.lh
  have b1 : w1.heap[hb]? = some (.cells sh.toArray 211 (0, 0)) := ht.block hb _ h.hrow (by rintro (e | e) <;> omega)
  have hO : Only hb w1 (w1.setCell ⟨hb, v * 7 + c, none⟩ (.slice a1 l1.length cap1)) := Only.set hb _ _ w1
  have ht2 : Tu (fun k => (L k = 4 ∨ L k = 6 + 2 * (v * 7 + c)) ∨ w.heap.size ≤ k) w (w1.setCell ⟨hb, v * 7 + c, none⟩ (.slice a1 l1.length cap1)) :=
    (ht.mono (fun k _ hk => by rcases hk with e | e; exact .inl (.inr e); exact .inr e)).trans (Tu.ofOnly hO (.inl (.inl hlh)))
  have s := h.stayZ (fun l => l = 4 ∨ l = 6 + 2 * (v * 7 + c)) (by omega) hL ht2
  have hidx : v * 7 + c < sh.length := by rw [h.shl]; have : v * 7 + 7 ≤ W * 7 := by have := Nat.mul_le_mul_right 7 hv; omega
                                          omega
  refine ⟨⟨s.tab, s.l0, s.l1, s.box (by omega), s.lb, s.free (by omega), s.row (by omega), h.plen, fun i hi => s.spans i hi _ (by omega), ?_, s.lh, by rw [List.length_set]; exact h.shl, fun v' c' hv' hc' => ?_⟩, cMv.of (fun l => l = 4 ∨ l = 6 + 2 * (v * 7 + c)) (by omega) hL ht2⟩
  · rw [heap_setCell_same w1 hb _ _ _ _ b1]
    congr 2
    simp
  · by_cases e : v' = v ∧ c' = c
    · obtain ⟨rfl, rfl⟩ := e
      refine ⟨a1, cap1, by rw [List.getElem?_set, if_pos rfl, if_pos hidx, cupd_at], ?_⟩
      rw [cupd_at]
      exact hva.same (old_only hO (by rw [hL hb hhb]; omega))
    · have hne : v' * 7 + c' ≠ v * 7 + c := by omega
      obtain ⟨a2, cap2, k1, k2⟩ := s.shelf v' c' hv' hc' (by omega)
      refine ⟨a2, cap2, ?_, ?_⟩
      · rw [List.getElem?_set, if_neg (by omega)]; unfold upd; rw [if_neg e]; exact k1
      · unfold upd; rw [if_neg e]; exact k2
/-- Lists of a call's own get a part. -/
theorem Cm.relab {w : World} {L L' : Nat → Nat} {cb fb hb : Nat} {a : Option Addr} {cap : Nat} {ps : List Nat} {sh : List Value} {P W : Nat} {φ : Nat → Bool} {m : List Sg} {K : Nat → Nat → List Nat} (h : Cm w L cb fb hb a cap ps sh P W φ m K) (hW : W ≤ 8) (hL : ∀ k, L k ≠ 1000 → L' k = L k) : Cm w L' cb fb hb a cap ps sh P W φ m K := by
  have hm : ∀ l2 i, l2 ≠ 1000 → i < w.heap.size → L i = l2 → L' i = l2 := fun l2 i h2 _ e => (hL i (by omega)).trans e
  refine ⟨h.tab, hm _ _ (by omega) h.tab.1.1 h.l0, hm _ _ (by omega) h.tab.2.1 h.l1, h.box, hm _ _ (by omega) (hlt h.box) h.lb, h.free.mono (fun i hi e => hm 2 i (by omega) hi e), h.row.mono (fun i hi e => hm 3 i (by omega) hi e), h.plen, fun i hi => (h.spans i hi).mono (fun j hj e => hm _ j (by omega) hj e), h.hrow, hm _ _ (by omega) (hlt h.hrow) h.lh, h.shl, fun v c hv hc => ?_⟩
  obtain ⟨a', cap', h1, h2⟩ := h.shelf v c hv hc
  exact ⟨a', cap', h1, h2.mono (fun i hi e => hm _ i (by omega) hi e)⟩
/-- The same memory tells of other states. -/
theorem Cm.restate {w : World} {L : Nat → Nat} {cb fb hb : Nat} {a : Option Addr} {cap : Nat} {ps : List Nat} {sh : List Value} {P W : Nat} {φ : Nat → Bool} {m m' : List Sg} {K : Nat → Nat → List Nat} (h : Cm w L cb fb hb a cap ps sh P W φ m K) (hl : m'.length = m.length) (he : ∀ i (hi : i < m.length), (m'[i]'(by omega)).pg = m[i].pg ∧ (m'[i]'(by omega)).cl = m[i].cl ∧ (m'[i]'(by omega)).bts = m[i].bts ∧ (m'[i]'(by omega)).f = m[i].f) : Cm w L cb fb hb a cap ps sh P W φ m' K := by
  refine ⟨h.tab, h.l0, h.l1, by rw [hl]; exact h.box, h.lb, h.free, h.row, by rw [hl]; exact h.plen, fun i hi => ?_, h.hrow, h.lh, h.shl, h.shelf⟩
  have hi' : i < m.length := by omega
  obtain ⟨e1, e2, e3, e4⟩ := he i hi'
  obtain ⟨b, g, h1, h2⟩ := h.spans i hi'
  rw [e1]
  refine ⟨b, g, ?_, h2⟩
  rw [e1, e2, e3, e4]
  exact h1
theorem Cm.turned {w : World} {L : Nat → Nat} {cb fb hb : Nat} {a : Option Addr} {cap : Nat} {ps : List Nat} {sh : List Value} {P W : Nat} {φ : Nat → Bool} {m : List Sg} {K : Nat → Nat → List Nat} (h : Cm w L cb fb hb a cap ps sh P W φ m K) (g : Nat → Nat → Nat → Nat) (hg : ∀ s ∈ m, ∀ j x, s.st[j]? = some x → (g (s.at j) s.cl x = 0 ↔ x = 0)) : Cm w L cb fb hb a cap ps sh P W φ (turnM g m) K := by
  refine h.restate (by simp [turnM]) (fun i hi => ?_)
  have e : (turnM g m)[i]'(by simpa [turnM] using hi) = m[i].turn g := by simp [turnM]
  rw [e]
  exact ⟨rfl, rfl, rfl, turn_f (fun j x hx => hg _ (List.getElem_mem hi) j x hx)⟩
/-- The cache in memory, all told. -/
def Ca (w : World) (L : Nat → Nat) (cb P W : Nat) (m : List Sg) : Prop := ∃ fb hb a cap ps sh, Cm w L cb fb hb a cap ps sh P W (pgF m) m (Kof m)
theorem ent_some : (match Tryz.prog.funcs[195]? with | some fn => !(fn.name == "runtime.NumGoroutine") && !fn.body.isNone | none => false) = true := by kernel_rfl
theorem ent_delI : (match Tryz.prog.funcs[196]? with | some fn => !(fn.name == "runtime.NumGoroutine") && !fn.body.isNone | none => false) = true := by kernel_rfl
theorem delI_q (S : Nat → Prop) (g n : Nat) (l : List Value) (cap i j : Nat) (w : World) (h : VAt w S 3 (some ⟨g, 0, none⟩) l cap) (hij : i < j) (hj : j ≤ n) (hn : l.length = n) (hl : n ≤ 100000) (h1 : ∀ v ∈ l, v.oneCell' = true) :
    Calls Tryz.prog 196 #[.slice (some ⟨g, 0, none⟩) n cap, .int .i64 (i : Nat), .int .i64 (j : Nat)] w fun e w' => ∃ n', e = .returned (.slice (some ⟨g, 0, none⟩) n' cap) ∧ (l.take i ++ l.drop j).length = n' ∧ VAt w' S 3 (some ⟨g, 0, none⟩) (l.take i ++ l.drop j) cap ∧ Only g w w' := by
  subst hn
  refine (delI_any S g l cap i j w h hij hj hl h1).mono ?_
  rintro e w' ⟨rfl, h⟩
  exact ⟨_, rfl, rfl, h⟩
set_option maxHeartbeats 1000000 in
/-- A worker that keeps some takes the first. -/
theorem small_head (L : Nat → Nat) (cb fb hb : Nat) (a : Option Addr) (cap : Nat) (ps : List Nat) (sh : List Value) (P W : Nat) (m : List Sg) (v c x : Nat) (l : List Nat) (w : World) (h : Cm w L cb fb hb a cap ps sh P W (pgF m) m (Kof m)) (ho : Okc P W m) (hv : v < W) (hc : c < 7) (hx : keptM v c m = x :: l) :
    ∃ g ck, w.cell? ⟨hb, v * 7 + c, none⟩ = some (.slice (some ⟨g, 0, none⟩) (l.length + 1) ck) ∧ w.frozen? ⟨hb, v * 7 + c, none⟩ = false ∧ w.cell? ⟨g, 0, none⟩ = some (.int .i64 (x : Nat)) ∧ g ≠ hb ∧ g < w.heap.size ∧
      Calls Tryz.prog 196 #[.slice (some ⟨g, 0, none⟩) (l.length + 1) ck, .int .i64 0, .int .i64 1] w (fun e w' => ∃ n' : Nat, e = .returned (.slice (some ⟨g, 0, none⟩) n' ck) ∧ w'.cell? ⟨hb, v * 7 + c, none⟩ = some (.slice (some ⟨g, 0, none⟩) (l.length + 1) ck) ∧ w'.frozen? ⟨hb, v * 7 + c, none⟩ = false ∧ Ca (w'.setCell ⟨hb, v * 7 + c, none⟩ (.slice (some ⟨g, 0, none⟩) n' ck)) L cb P W (setM x 1 m) ∧ cMv L w L (w'.setCell ⟨hb, v * 7 + c, none⟩ (.slice (some ⟨g, 0, none⟩) n' ck))) := by
  obtain ⟨ak, ck, k1, k2, k3⟩ := h.kept v c hv hc
  have hK : Kof m v c = x :: l := hx
  rw [hK] at k1 k3
  obtain ⟨g, rfl, hg, hgl, k4, _⟩ := k3.at 0 (by simp)
  have hgh : g ≠ hb := fun e => by have := h.lh; rw [e] at hg; omega
  refine ⟨g, ck, k1, k2, by simpa [numV] using k4, hgh, hgl, ?_⟩
  have hlen := Kof_ok ho v c
  rw [hK] at hlen
  have hl1 := hlen.2
  simp only [List.length_cons] at hl1
  refine (delI_q _ g (l.length + 1) ((x :: l).map numV) ck 0 1 w k3 (by omega) (by omega) (by simp) hl1 (nums_one _)).mono ?_
  rintro e w' ⟨n', rfl, hn', r1, r2⟩
  have e1 : ((x :: l).map numV).take 0 ++ ((x :: l).map numV).drop 1 = l.map numV := by simp
  rw [e1] at r1 hn'
  rw [List.length_map] at hn'
  subst hn'
  obtain ⟨C, M⟩ := h.shelf_put (Ext.refl w L) v c hv hc (Tu.ofOnly r2 (.inl hg)) _ l ck r1
  obtain ⟨q1, q2⟩ := kof_take ho.fit hv hx
  have z1 : w'.cell? ⟨hb, v * 7 + c, none⟩ = some (.slice (some ⟨g, 0, none⟩) (l.length + 1) ck) := by rw [r2.cell (p := ⟨hb, v * 7 + c, none⟩) (fun e => hgh e.symm)]; exact k1
  have z2 : w'.frozen? ⟨hb, v * 7 + c, none⟩ = false := by rw [r2.frozen (p := ⟨hb, v * 7 + c, none⟩) (fun e => hgh e.symm)]; exact k2
  refine ⟨l.length, rfl, z1, z2, ⟨fb, hb, a, cap, ps, sh.set (v * 7 + c) (.slice (some ⟨g, 0, none⟩) l.length ck), ?_⟩, M⟩
  rw [show pgF (setM x 1 m) = pgF m from pgF_turn _ _, kof_is, q1]
  refine C.turned _ (fun s hs j y hy => ?_)
  by_cases e : s.at j = x
  · rw [if_pos e]
    obtain ⟨z, hz⟩ := mem_keptM.1 (show x ∈ keptM v c m by rw [hx]; exact List.mem_cons_self)
    have hin : In m x s.z s.cl y := ⟨s, hs, j, hy, e.symm, rfl, rfl⟩
    have := (hin.one ho.fit hz).2.2
    omega
  · rw [if_neg e]
end Go.Proofs.YtgdjlopnhecmjaaGreatDoor
