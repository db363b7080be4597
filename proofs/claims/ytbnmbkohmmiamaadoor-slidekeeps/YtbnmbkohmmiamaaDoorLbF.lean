/- A class gathered. -/
import Derived.Test.YtbnmbkohmmiamaaDoorLbE
import Derived.Deep.RegionHeld3
namespace Go.Proofs.YtbnmbkohmmiamaaDoor
open Go.RowKit
set_option linter.unusedVariables false

theorem OwnsI.kind {w : World} {B : Nat} {a : Option Addr} {l : List Int} {c : Nat} (h : OwnsI w B a l c) : ∀ k, ob a = some k → ∃ cur, w.heap[k]? = some (.cells cur 3 (0, 0)) := fun k hk => by
  obtain ⟨_, ⟨h1, _⟩ | ⟨g', c', cur', h1, _, h2, _⟩⟩ := h
  · injection h1 with e1; subst e1; cases hk
  · cases h1; cases hk
    exact ⟨_, h2⟩
theorem Tl.kind {w : World} {L : Nat → Nat} {B vb : Nat} {a : Option Addr} {l : List Mv} {n c : Nat} (h : Tl w L B vb a l n c) {k : Nat} (hk : k = vb ∨ ob a = some k) : L k = 0 ∧ B ≤ k ∧ ∃ cur T, w.heap[k]? = some (.cells cur T (0, 0)) ∧ (T = 25 ∨ T = 35) := by
  rcases hk with rfl | hk
  · exact ⟨h.vz, h.vg, _, _, h.box, .inl rfl⟩
  · obtain ⟨h1, _, cur, h2⟩ := h.row.ge k hk
    exact ⟨h.rz k hk, h1, cur, _, h2, .inr rfl⟩
/-- What tell leaves of the spans. -/
theorem Sta.told {w wr w' : World} {L : Nat → Nat} {a av : Option Addr} {ps : List Nat} {n c vb nv cv : Nat} {m : List Sn} {F : Nat → Nat → Bool} {lv : List Mv} (h : Sta w wr L a ps n c m F) (t : Tl wr L w.heap.size vb av lv nv cv) (u : Tu (fun k => k = vb ∨ ob av = some k) wr w') : Sta w w' L a ps n c m F :=
  h.tu u (fun k hk => by
    obtain ⟨h1, h2, cur, T, h3, h4⟩ := t.kind hk
    refine ⟨h1, h2, fun e => ?_⟩
    obtain ⟨_, _, cur', h5⟩ := h.row.ge k e
    rw [h3] at h5
    simp at h5
    rcases h4 with e | e <;> (rw [e] at h5; simp at h5))
theorem Sub.told {w wr w' : World} {L : Nat → Nat} {aq av : Option Addr} {ps own : List Nat} {nq cq vb nv cv : Nat} {lv : List Mv} (h : Sub w wr L ps own aq nq cq) (t : Tl wr L w.heap.size vb av lv nv cv) (u : Tu (fun k => k = vb ∨ ob av = some k) wr w') : Sub w w' L ps own aq nq cq :=
  h.same (fun g o hg ho => u.block g o ho (fun hk => by
    obtain ⟨h1, h2, cur, T, h3, h4⟩ := t.kind hk
    obtain ⟨_, _, cur', h5⟩ := h.row.ge g hg
    rw [h3] at h5
    simp at h5
    rcases h4 with e | e <;> (rw [e] at h5; simp at h5)))
theorem OwnsI.told {wr w' : World} {L : Nat → Nat} {al av : Option Addr} {B B' cl vb nv cv : Nat} {l : List Int} {lv : List Mv} (h : OwnsI wr B' al l cl) (t : Tl wr L B vb av lv nv cv) (u : Tu (fun k => k = vb ∨ ob av = some k) wr w') : OwnsI w' B' al l cl :=
  h.same (fun g o hg ho => u.block g o ho (fun hk => by
    obtain ⟨h1, h2, cur, T, h3, h4⟩ := t.kind hk
    obtain ⟨cur', h5⟩ := h.kind g hg
    rw [h3] at h5
    simp at h5
    rcases h4 with e | e <;> (rw [e] at h5; simp at h5)))
theorem OwnsI.cellN {w : World} {B : Nat} {a : Option Addr} {l : List Nat} {c : Nat} (h : OwnsI w B a (l.map Int.ofNat) c) (j : Nat) (hj : j < l.length) : ∃ g, a = some ⟨g, 0, none⟩ ∧ w.cell? ⟨g, j, none⟩ = some (.int .i64 (l.getD j 0 : Nat)) := by
  have h' : w.ownsRow B 3 1 (.slice a (l.map Int.ofNat).length c) _ _ := h
  obtain ⟨_, ⟨h1, h2⟩ | ⟨q, c', cur, h1, hg1, h2, _⟩⟩ := h
  · rw [List.length_map] at h2; omega
  · cases h1
    refine ⟨q, rfl, ?_⟩
    rw [World.ownsRow.cellAt h' j (by rw [List.length_map]; omega)]
    simp [hj, List.getD_eq_getElem?_getD]
theorem mv1_len (m : List Sn) (own frm : List Nat) (sl z : Nat) : ∀ j, (mv1U m own frm sl z j).length ≤ j
  | 0 => Nat.le_refl _
  | j + 1 => by
    rw [mv1U, List.length_append]
    have := mv1_len m own frm sl z j
    unfold mvIf
    split <;> simp <;> omega
theorem mvIf_int (a b z : Nat) : (if (a : Int) = (b : Int) then [] else [⟨a, b, z⟩] : List Mv) = mvIf a b z := by
  unfold mvIf
  by_cases e : a = b
  · rw [if_pos e, if_pos (by omega)]
  · rw [if_neg e, if_neg (by omega)]
/-- The next slot of a class's spans. -/
theorem fill_next {own : List Nat} {sl : Nat} {F : Nat → Nat → Bool} (hinj : ∀ r q, r < own.length → q < own.length → own.getD r 0 = own.getD q 0 → r = q) {r x j : Nat} (hr : r < own.length) (hx : x < sl) (hj : r * sl + x = j) :
    j / sl = r ∧ j % sl = x ∧ (∀ y, fillF own sl (clrF F own) j (own.getD r 0) y = decide (y < x)) ∧ fillF own sl (clrF F own) (j + 1) = updF (fillF own sl (clrF F own) j) (own.getD r 0) (put (fillF own sl (clrF F own) j (own.getD r 0)) x true) := by
  have d1 : j / sl = r := by rw [← hj, Nat.mul_comm, Nat.mul_add_div (by omega), Nat.div_eq_of_lt hx]; omega
  have d2 : j % sl = x := by rw [← hj, Nat.mul_comm, Nat.mul_add_mod, Nat.mod_eq_of_lt hx]
  have le : (r + 1) * sl ≤ own.length * sl := Nat.mul_le_mul_right _ hr
  rw [Nat.add_mul, Nat.one_mul] at le
  refine ⟨d1, d2, fun y => ?_, by rw [fillF, d1, d2]⟩
  rw [fill_at (by omega) hinj r hr j (by omega)]
  exact decide_eq_decide.2 (by omega)
set_option maxRecDepth 20000 in
set_option maxHeartbeats 4000000 in
theorem gather_any (w wr : World) (L : Nat → Nat) (a : Option Addr) (ps : List Nat) (n c P k vb nv cv : Nat) (av : Option Addr) (lv : List Mv) (m : List Sn) (F : Nat → Nat → Bool) (aq : Option Addr) (nq cq : Nat) (h : Sta w wr L a ps n c m F) (hq : Sub w wr L ps (ownL k m) aq nq cq) (hS : Std P m) (hw : ∀ i, i < m.length → ∀ y, F i y = true → y < (sn m i).sl) (hk : k < 7) (hnq : nq ≤ 4096) (hT : Tl wr L w.heap.size vb av lv nv cv) (hlv : lv.length + nq * 16 < 100000) :
    Calls Tryd.prog 27 #[.slice aq nq cq, .func (.func 26) #[] #[.pointer (some ⟨vb, 0, none⟩)]] wr fun e w' => e = .returned (.tuple #[]) ∧ ∃ av' nv' cv', Sta w w' L a ps n c m (gathF k m F) ∧ Tl w' L w.heap.size vb av' (lv ++ gathV k m F) nv' cv' := by
  have ST : Hid (Sta w wr L a ps n c m F) := h
  have SQ : Hid (Sub w wr L ps (ownL k m) aq nq cq) := hq
  have HS : Hid (Std P m) := hS
  have HW : Hid (∀ i, i < m.length → ∀ y, F i y = true → y < (sn m i).sl) := hw
  have TL : Hid (Tl wr L w.heap.size vb av lv nv cv) := hT
  have hlen := hq.len
  have GF : Hid (gathF k m F = fillF (ownL k m) (clSl k) (clrF F (ownL k m)) (fromU m F (ownL k m)).length) := rfl
  have GV : Hid (gathV k m F = mv1U m (ownL k m) (fromU m F (ownL k m)) (clSl k) (clZ k) (fromU m F (ownL k m)).length) := rfl
  have NL : (fromU m F (ownL k m)).length ≤ nq * clSl k := by rw [← hlen]; exact from_len F
  have SL := clSl_pos k (by omega)
  have OW : Hid (∀ i ∈ ownL k m, i < m.length ∧ (sn m i).cl = k) := own_all
  have ND : Hid ((ownL k m).Pairwise (· < ·)) := ownU_rises k m _
  have IJ : Hid (∀ r q, r < (ownL k m).length → q < (ownL k m).length → (ownL k m).getD r 0 = (ownL k m).getD q 0 → r = q) := fun r q hr hq e => own_inj hr hq e
  have CZ : Hid (∀ i ∈ ownL k m, szI ((sn m i).cl : Int) ((sn m i).bts : Int) = ((clZ k : Nat) : Int)) := fun i hi => by
    obtain ⟨h1, h2⟩ := own_all i hi
    rw [(hS.rt i h1).zn]
    have := clZ_eq h2 hk
    unfold Sn.z at this
    show _ = _
    rw [this]
  have CS : Hid (∀ i ∈ ownL k m, slN ((sn m i).cl : Int) = clSl k) := fun i hi => clSl_eq (own_all i hi).2
  obtain ⟨own, hown⟩ : ∃ own, ownL k m = own := ⟨_, rfl⟩
  obtain ⟨sl, hsl⟩ : ∃ sl, clSl k = sl := ⟨_, rfl⟩
  obtain ⟨z, hz⟩ : ∃ z, clZ k = z := ⟨_, rfl⟩
  obtain ⟨frm, hfrm⟩ : ∃ frm, fromU m F own = frm := ⟨_, rfl⟩
  rw [hown] at SQ hlen GF GV NL OW ND IJ CZ CS
  rw [hsl] at GF GV NL SL CS
  rw [hz] at GV CZ
  rw [hfrm] at GF GV NL
  have HLN : Hid (own.length = nq) := hlen
  have HFR : Hid (fromU m F own = frm) := hfrm
  have HO1 : Hid (∀ i ∈ own, i < m.length) := fun i hi => (OW.out i hi).1
  obtain ⟨N, hN⟩ : ∃ N, frm.length = N := ⟨_, rfl⟩
  have HN : Hid (frm.length = N) := hN
  rw [hN] at GF GV NL
  have N16 : N ≤ nq * 16 := Nat.le_trans NL (Nat.mul_le_mul_left _ SL.2)
  have MB : Hid (∀ j, j ≤ N → (lv ++ mv1U m own frm sl z j).length < 100000) := fun j hj => by
    have := mv1_len m own frm sl z j
    show _ < _
    rw [List.length_append]; omega
  clear h hq hS hw hT hlen hown hsl hz hfrm hN hlv N16
  go_enter Tryd.func27, Tryd.ntmps27
  go_wp2
  go_step3
  go_wp2_with (go_at_call 47; refine (lift_any w wr L a ps n c P m F own aq nq cq ST.out SQ.out HS.out HW.out HO1.out ND.out hnq).mono ?_; rw [HFR.out, HN.out]; rintro e w1 ⟨al, cl, rfl, o1, z1, s1, q1, t1⟩; have O1 : Hid (OwnsI w1 wr.heap.size al (frm.map Int.ofNat) cl) := o1; have Z1 : Hid (∀ g, ob al = some g → L g = 0) := z1; have S1 : Hid (Sta w w1 L a ps n c m (clrF F own)) := s1; have Q1 : Hid (Sub w w1 L ps own aq nq cq) := q1; have T1 : Hid (Tl w1 L w.heap.size vb av lv nv cv) := TL.out.same (fun k o ho hk => t1.block k o ho (fun hs => by have e1 := (TL.out.kind hk).1; have e2 := hlt ho; rcases hs with e | e; exact e e1; omega)); clear o1 z1 s1 q1 t1)
  go_step3
  go_wp2
  have A0 : Hid (∀ M, M + 0 = N → 0 < M → ∃ gl, al = some ⟨gl, 0, none⟩ ∧ al = some ⟨gl, 0, none⟩ ∧ M ≤ cl) := fun M hM h0 => by
    obtain ⟨p1, p2, p3, p4⟩ := O1.out.parts
    rw [List.length_map, HN.out] at p1
    obtain ⟨gl, hg, _⟩ := O1.out.cellN 0 (by rw [HN.out]; omega)
    exact ⟨gl, hg, hg, by omega⟩
  go_loopw [4, 15] (fun lvv iv wz => ∃ (r j M : Nat) (A : Option Addr) (C : Nat) (av' : Option Addr) (nv' cv' : Nat), r ≤ nq ∧ iv = .int .i64 (r : Nat) ∧ lvv = .slice A M C ∧ r * sl = j ∧ M + j = N ∧ C ≤ 9223372036854775807 ∧ (0 < M → ∃ gl, al = some ⟨gl, 0, none⟩ ∧ A = some ⟨gl, j, none⟩ ∧ M ≤ C) ∧ Sta w wz L a ps n c m (fillF own sl (clrF F own) j) ∧ Sub w wz L ps own aq nq cq ∧ Tl wz L w.heap.size vb av' (lv ++ mv1U m own frm sl z j) nv' cv' ∧ OwnsI wz wr.heap.size al (frm.map Int.ofNat) cl) (fun _ iv _ => nq - lenW iv)
  case atStart => exact ⟨0, 0, N, al, cl, av, nv, cv, Nat.zero_le _, rfl, rfl, Nat.zero_mul _, rfl, by have := O1.out.parts.2.1; unfold maxLen at this; omega, A0.out N rfl, S1.out, Q1.out, by rw [mv1U, List.append_nil]; exact T1.out, O1.out⟩
  case round =>
    clear S1 Q1 T1 O1 A0
    obtain ⟨r, j, M, A, C, av1, nv1, cv1, hr, rfl, rfl, hj, hM, hC, hA, hSt, hSub, hTl, hOw⟩ := hrel
    rename World => wz
    have SZ : Hid (Sta w wz L a ps n c m (fillF own sl (clrF F own) j)) := hSt
    have QZ : Hid (Sub w wz L ps own aq nq cq) := hSub
    have TZ : Hid (Tl wz L w.heap.size vb av1 (lv ++ mv1U m own frm sl z j) nv1 cv1) := hTl
    have OZ : Hid (OwnsI wz wr.heap.size al (frm.map Int.ofNat) cl) := hOw
    have HA : Hid (0 < M → ∃ gl, al = some ⟨gl, 0, none⟩ ∧ A = some ⟨gl, j, none⟩ ∧ M ≤ C) := hA
    have HJ : Hid (r * sl = j) := hj
    have HM : Hid (M + j = N) := hM
    clear hSt hSub hTl hOw hA hj hM
    by_cases hrn : r < nq
    · have hro : r < own.length := by rw [HLN.out]; exact hrn
      have HRO : Hid (r < own.length) := hro
      obtain ⟨g, rfl, cp⟩ := QZ.out.at r hro
      have io : own.getD r 0 ∈ own := getD_mem hro
      obtain ⟨i, hi⟩ : ∃ i, own.getD r 0 = i := ⟨_, rfl⟩
      have HI : Hid (own.getD r 0 = i) := hi
      rw [hi] at cp io
      have him : i < m.length := HO1.out i io
      have HIM : Hid (i < m.length) := him
      have RT : Hid (Rt ((sn m i).pg : Int) ((sn m i).cl : Int) ((sn m i).bts : Int)) := HS.out.rt i him
      have AT : Hid (∀ x : Nat, 256 * ((sn m i).pg : Int) + (x : Int) * szI ((sn m i).cl : Int) ((sn m i).bts : Int) = (((sn m i).at x : Nat) : Int)) := fun x => at_nat HS.out i him x
      have HSL : Hid (slN ((sn m i).cl : Int) = sl) := CS.out i io
      have HZ : Hid (szI ((sn m i).cl : Int) ((sn m i).bts : Int) = ((z : Nat) : Int)) := CZ.out i io
      obtain ⟨q, hq⟩ : ∃ q, ps.getD i 0 = q := ⟨_, rfl⟩
      have HQ : Hid (ps.getD i 0 = q) := hq
      rw [hq] at cp
      have r0 : (r : Int) < (nq : Int) := by omega
      obtain ⟨b, g2, sp, l1, l2, l3⟩ := SZ.out.at i him
      rw [hq] at sp l1
      have BX0 : Hid (Bx wz q ((sn m i).pg : Int) ((sn m i).cl : Int) ((sn m i).bts : Int)) := sp.box
      have TB0 : Hid (Tabs wz) := SZ.out.sp.tab
      clear sp l1 l2 l3 hi him hq io hro
      go_wp2_with (go_at_call 23; refine (slots_rt q _ _ _ _ BX0.out TB0.out.1 RT.out sl HSL.out).mono ?_; rintro e w' ⟨rfl, rfl⟩)
      go_loopw [4, 21] (fun lvv jv wy => ∃ (x j M : Nat) (A : Option Addr) (C : Nat) (av' : Option Addr) (nv' cv' : Nat), x ≤ sl ∧ jv = .int .i64 (x : Nat) ∧ lvv = .slice A M C ∧ r * sl + x = j ∧ M + j = N ∧ C ≤ 9223372036854775807 ∧ (0 < M → ∃ gl, al = some ⟨gl, 0, none⟩ ∧ A = some ⟨gl, j, none⟩ ∧ M ≤ C) ∧ Sta w wy L a ps n c m (fillF own sl (clrF F own) j) ∧ Sub w wy L ps own (some ⟨g, 0, none⟩) nq cq ∧ Tl wy L w.heap.size vb av' (lv ++ mv1U m own frm sl z j) nv' cv' ∧ OwnsI wy wr.heap.size al (frm.map Int.ofNat) cl) (fun _ jv _ => sl - lenW jv)
      case atStart => exact ⟨0, j, M, A, C, av1, nv1, cv1, Nat.zero_le _, rfl, rfl, HJ.out, HM.out, hC, HA.out, SZ.out, QZ.out, TZ.out, OZ.out⟩
      case round =>
        clear SZ QZ TZ OZ HA HJ HM hC BX0 TB0
        obtain ⟨x, j, M, A, C, av2, nv2, cv2, hx, rfl, rfl, hj, hM, hC, hA, hSt, hSub, hTl, hOw⟩ := hrel
        rename World => wy
        have S2 : Hid (Sta w wy L a ps n c m (fillF own sl (clrF F own) j)) := hSt
        have Q2 : Hid (Sub w wy L ps own (some ⟨g, 0, none⟩) nq cq) := hSub
        have T2 : Hid (Tl wy L w.heap.size vb av2 (lv ++ mv1U m own frm sl z j) nv2 cv2) := hTl
        have O2 : Hid (OwnsI wy wr.heap.size al (frm.map Int.ofNat) cl) := hOw
        have HJ : Hid (r * sl + x = j) := hj
        have HM : Hid (M + j = N) := hM
        clear hSt hSub hTl hOw
        by_cases hxS : x < sl
        · have x0 : (x : Int) < (sl : Int) := by omega
          by_cases hM0 : M = 0
          · subst hM0
            have FIN : Hid (Sta w wy L a ps n c m (gathF k m F) ∧ Tl wy L w.heap.size vb av2 (lv ++ gathV k m F) nv2 cv2) := by
              have e : j = N := by omega
              have h1 := S2.out
              have h2 := T2.out
              rw [e] at h1 h2
              show _ ∧ _
              rw [GF.out, GV.out]
              exact ⟨h1, h2⟩
            clear hA hj hM
            go_wp2
            rw [Exit.noGoto_normal]
            go_end0
            exact ⟨rfl, av2, nv2, cv2, FIN.out.1, FIN.out.2⟩
          · obtain ⟨gl, hal, rfl, hMC⟩ := hA (by omega)
            obtain ⟨g', hal', cj⟩ := O2.out.cellN j (by rw [HN.out]; omega)
            rw [hal] at hal'
            cases hal'
            obtain ⟨b, g2, sp, l1, l2, l3⟩ := S2.out.at i HIM.out
            obtain ⟨d1, d2, fy, fn⟩ := fill_next (F := F) IJ.out HRO.out hxS hj
            rw [HI.out] at fy fn
            have l1' := l1
            rw [HQ.out] at sp l1'
            obtain ⟨f, hf⟩ : ∃ f, fillF own sl (clrF F own) j i = f := ⟨_, rfl⟩
            rw [hf] at sp fy fn
            have SPH : Hid (SpanAt wy q b g2 ((sn m i).pg : Int) ((sn m i).cl : Int) ((sn m i).bts : Int) f) := sp
            have LH : Hid (L (ps.getD i 0) = i + 1 ∧ L b = i + 1 ∧ L g2 = i + 1) := ⟨l1, l2, l3⟩
            have TKR : Hid (∀ r1 ok f', TakeR (slN ((sn m i).cl : Int)) f r1 ok f' → r1 = (x : Int) ∧ ok = true ∧ f' = put f x true) := fun r1 ok f' h => by
              refine TakeR.one h (.inl ⟨rfl, x, rfl, by rw [HSL.out]; exact hxS, by rw [fy]; simp, fun y hy => by rw [fy]; simpa using hy, rfl⟩)
            have FN : Hid (fillF own sl (clrF F own) (j + 1) = updF (fillF own sl (clrF F own) j) i (put f x true)) := fn
            have TB2 : Hid (Tabs wy) := S2.out.sp.tab
            have XS : Hid (x < slN ((sn m i).cl : Int)) := by show _ < _; rw [HSL.out]; exact hxS
            obtain ⟨y, hy⟩ : ∃ y, (sn m i).at x = y := ⟨_, rfl⟩
            have ATX : Hid (256 * ((sn m i).pg : Int) + (x : Int) * szI ((sn m i).cl : Int) ((sn m i).bts : Int) = (y : Int)) := by show _ = _; rw [AT.out x, hy]
            obtain ⟨fj, hfj⟩ : ∃ fj, frm.getD j 0 = fj := ⟨_, rfl⟩
            rw [hfj] at cj
            have HFJ : Hid (frm.getD j 0 = fj) := hfj
            have MV : Hid (lv ++ mv1U m own frm sl z j ++ (if (fj : Int) = (y : Int) then [] else [⟨fj, y, z⟩]) = lv ++ mv1U m own frm sl z (j + 1)) := by
              show _ = _
              rw [mvIf_int, mv1U, hfj, List.append_assoc]
              congr 2
              unfold toJ
              rw [d1, d2, HI.out, hy]
            have NB : Hid (nv2 < 100000) := by
              have := MB.out j (by omega)
              show _ < _
              rw [← T2.out.len]; exact this
            have HAL : Hid (al = some ⟨gl, 0, none⟩) := hal
            have LGL : Hid (L gl = 0) := Z1.out gl (by rw [hal]; rfl)
            have m0 : ((M : Int) == 0) = false := beq_eq_false_iff_ne.2 (by omega)
            have m1 : 0 < M := by omega
            have M1 : Hid (M + j = N ∧ M ≤ C ∧ ¬ M = 0) := ⟨hM, hMC, hM0⟩
            clear sp l1 l2 l3 l1' d1 d2 fy fn hf hy hfj hal hA hj hM
            go_wp2_with (first
              | (go_at_call 48; refine (take_any q b g2 _ _ _ _ _ SPH.out TB2.out.2).mono ?_; rintro e w3 ⟨r1, ok1, f1, rfl, tk, s3, o3⟩; obtain ⟨rfl, rfl, rfl⟩ := TKR.out _ _ _ tk
                 have S3 : Hid (Sta w w3 L a ps n c m (fillF own sl (clrF F own) (j + 1))) := by
                   show Sta _ _ _ _ _ _ _ _ _
                   rw [FN.out]
                   exact S2.out.turned i HIM.out b g2 _ LH.out.1 LH.out.2.1 LH.out.2.2 (by rw [HQ.out]; exact s3) o3
                 have g2ne : ∀ k, L k = 0 → k ≠ g2 := fun k hk e => by have := LH.out.2.2; rw [← e] at this; omega
                 have Q3 : Hid (Sub w w3 L ps own (some ⟨g, 0, none⟩) nq cq) := Q2.out.same (fun k o hk ho => by rw [o3.block k (g2ne k (Q2.out.rz k hk))]; exact ho)
                 have O3 : Hid (OwnsI w3 wr.heap.size al (frm.map Int.ofNat) cl) := O2.out.same (fun k o hk ho => by rw [o3.block k (g2ne k (Z1.out k hk))]; exact ho)
                 have T3 : Hid (Tl w3 L w.heap.size vb av2 (lv ++ mv1U m own frm sl z j) nv2 cv2) := T2.out.same (fun k o ho hk => by rw [o3.block k (g2ne k (T2.out.kind hk).1)]; exact ho)
                 have BX3 : Hid (Bx w3 q ((sn m i).pg : Int) ((sn m i).cl : Int) ((sn m i).bts : Int)) := s3.box
                 have TB3 : Hid (Tabs w3) := S3.out.sp.tab
                 have c3 : w3.cell? ⟨gl, j, none⟩ = some (.int .i64 (fj : Nat)) := by rw [World.cell?_of_block (o3.block gl (g2ne gl LGL.out))]; exact cj
                 clear s3 o3 g2ne tk)
              | (go_at_call 36; refine (at_in q _ _ _ x _ BX3.out TB3.out.1 RT.out XS.out).mono ?_; rw [ATX.out]; rintro e w' ⟨rfl, rfl⟩))
            have bd : Below w3.heap.size w3 w3.drew := (Below.refl _ _).drew
            have S5 : Hid (Sta w w3.drew L a ps n c m (fillF own sl (clrF F own) (j + 1))) := S3.out.keep bd
            have Q5 : Hid (Sub w w3.drew L ps own (some ⟨g, 0, none⟩) nq cq) := Q3.out.keep bd
            have O5 : Hid (OwnsI w3.drew wr.heap.size al (frm.map Int.ofNat) cl) := O3.out.drew
            have T5 : Hid (Tl w3.drew L w.heap.size vb av2 (lv ++ mv1U m own frm sl z j) nv2 cv2) := T3.out.keep bd
            clear bd
            go_region_held3 (fun w' => w'.cell? ⟨gl, j, none⟩ = some (.int .i64 (fj : Nat))) (first | exact c3 | exact c4)
              ((first
                | (go_at_call 37; refine (size_rt q _ _ _ _ BX3.out.drew TB3.out.1 RT.out (z : Int) HZ.out).mono ?_; rintro e w' ⟨rfl, rfl⟩)
                | (go_at_call 26; refine (tell_any L w.heap.size vb av2 _ nv2 cv2 (fj : Int) (y : Int) (z : Int) _ T5.out S5.out.bel.size NB.out S5.out.high _ MV.out).mono ?_; rintro e w4 ⟨rfl, av4, nv4, cv4, t4, u4⟩
                   have T4 : Hid (Tl w4 L w.heap.size vb av4 (lv ++ mv1U m own frm sl z (j + 1)) nv4 cv4) := t4
                   have S4 : Hid (Sta w w4 L a ps n c m (fillF own sl (clrF F own) (j + 1))) := S5.out.told T5.out u4
                   have Q4 : Hid (Sub w w4 L ps own (some ⟨g, 0, none⟩) nq cq) := Q5.out.told T5.out u4
                   have O4 : Hid (OwnsI w4 wr.heap.size al (frm.map Int.ofNat) cl) := O5.out.told T5.out u4
                   have c4 : w4.cell? ⟨gl, j, none⟩ = some (.int .i64 (fj : Nat)) := by
                     obtain ⟨g', e1, e2⟩ := O4.out.cellN j (by have := HN.out; have := M1.out; omega)
                     rw [HAL.out] at e1
                     cases e1
                     rw [HFJ.out] at e2
                     exact e2
                   clear t4 u4)))
            have c1 : 1 ≤ M := m1
            have c5 : 1 ≤ C := by have := M1.out; omega
            have c6 : M ≤ C := M1.out.2.1
            clear c4
            go_wp2
            refine ⟨⟨x + 1, j + 1, M - 1, _, C - 1, av4, nv4, cv4, by omega, by congr 1, rfl, by have := HJ.out; omega, by have := M1.out; omega, by omega, fun h0 => ⟨gl, HAL.out, if_neg (by omega), by omega⟩, S4.out, Q4.out, T4.out, O4.out⟩, ?_⟩
            simp [lenW]; omega
        · obtain rfl : x = sl := by omega
          have HJ2 : Hid ((r + 1) * x = j) := by show _ = _; rw [Nat.add_mul, Nat.one_mul]; exact hj
          clear hj
          have HA2 : Hid (0 < M → ∃ gl, al = some ⟨gl, 0, none⟩ ∧ A = some ⟨gl, j, none⟩ ∧ M ≤ C) := hA
          clear hA hM
          go_wp2
          go_roundw
          case rel => exact ⟨r + 1, j, M, A, C, av2, nv2, cv2, by omega, by congr 1, rfl, HJ2.out, HM.out, hC, HA2.out, S2.out, Q2.out, T2.out, O2.out⟩
          case measure => simp [lenW]; omega
    · obtain rfl : r = nq := by omega
      have FIN : Hid (Sta w wz L a ps n c m (gathF k m F) ∧ Tl wz L w.heap.size vb av1 (lv ++ gathV k m F) nv1 cv1) := by
        have e : j = N := by have := HM.out; have := HJ.out; omega
        have h1 := SZ.out
        have h2 := TZ.out
        rw [e] at h1 h2
        show _ ∧ _
        rw [GF.out, GV.out]
        exact ⟨h1, h2⟩
      go_wp2
      rw [Exit.noGoto_normal]
      go_end0
      exact ⟨rfl, av1, nv1, cv1, FIN.out.1, FIN.out.2⟩
end Go.Proofs.YtbnmbkohmmiamaaDoor
