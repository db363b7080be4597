/- Layer 15: KaK again -/
import Derived.Test.YtgdjlopnhecmjaaGreatDoorGzAT
import Derived.Test.YtgdjlopnhecmjaaGreatDoorGzAJ
namespace Go.Proofs.YtgdjlopnhecmjaaGreatDoor
open Go.RowKit
set_option linter.unusedVariables false
set_option maxRecDepth 4000
/-- What takeSmall leaves. -/
def SmallP (L : Nat → Nat) (w : World) (cb P W v c : Nat) (m : List Sg) : Option (List Sg) → Ending → World → Prop
  | none => fun e w' => e = .returned (.tuple #[.int .i64 0, .int .i64 13]) ∧ ∃ L', Ca w' L' cb P W m ∧ cMv L w L' w'
  | some m2 => fun e w' => e = .returned (.tuple #[.int .i64 (((keptM v c m2).headD 0 : Nat) : Int), .int .i64 0]) ∧ ∃ L', Ca w' L' cb P W (setM ((keptM v c m2).headD 0) 1 m2) ∧ cMv L w L' w'
theorem res_nil {P v c : Nat} {m : List Sg} (h : (someRes P v c m).1 = []) (hs : ∀ p, freeP c (ins (fresh p c 0 0) m) ≠ []) : (someRes P v c m).2 = m := by
  have take_ne : ∀ l : List Nat, l ≠ [] → l.take 4 ≠ [] := fun l h e => by
    cases l with
    | nil => exact h rfl
    | cons x l => simp at e
  unfold someRes at h ⊢
  split at h
  · rename_i hf; exact absurd h (take_ne _ hf)
  · rename_i hf
    rw [if_neg hf]
    cases hl : layP P 1 0 m with
    | none => rfl
    | some p => rw [hl] at h; exact absurd h (take_ne _ (hs p))
theorem fresh_free {W p c : Nat} {m : List Sg} (hc : c < 7) : freeP c (ins (fresh p c 0 0) m) ≠ [] := fun e => by
  have hs : 1 ≤ slN (c : Int) := by
    have := (fresh_ok (W := W) (p := p) (c := c) (b := 0) (x := 0) (by omega) (fun _ => rfl) (fun e => by omega) (by omega) (fun _ => by omega)).facts.1
    simpa [fresh] using this
  have : (fresh p c 0 0).at 0 ∈ freeP c (ins (fresh p c 0 0) m) := mem_freeP.2 ⟨(fresh p c 0 0).z, ins_in.2 (.inl ⟨0, by show (List.replicate (slN (c : Int)) 0)[0]? = some 0; rw [List.getElem?_replicate, if_pos (by omega)], rfl, rfl, rfl⟩)⟩
  rw [e] at this; cases this
set_option maxHeartbeats 1000000 in
theorem ktakeS_any (L : Nat → Nat) (cb fb hb : Nat) (a : Option Addr) (cap : Nat) (ps : List Nat) (sh : List Value) (P W : Nat) (m : List Sg) (v c : Nat) (w : World) (h : Cm w L cb fb hb a cap ps sh P W (pgF m) m (Kof m)) (ho : Okc P W m) (hv : v < W) (hc : c < 7) :
    Calls Tryz.prog 134 #[.pointer (some ⟨cb, 0, none⟩), .pointer (some ⟨hb, v * 7, none⟩), .int .i64 (c : Nat)] w (SmallP L w cb P W v c m (fillM P v c m)) := by
  have hc7' : (c : Int) < 7 := by omega
  have hc0 : (0 : Int) ≤ (c : Int) := by omega
  have HC : Hid (Cm w L cb fb hb a cap ps sh P W (pgF m) m (Kof m)) := h
  have HO : Hid (Okc P W m) := ho
  rcases hk : keptM v c m with _ | ⟨x, l⟩
  · obtain ⟨ak, ck, k1, k2, k3⟩ := h.kept v c hv hc
    rw [show Kof m v c = [] from hk] at k1
    obtain ⟨q1, q2, q3⟩ := fill_res ho.fit hv hc hk
    obtain ⟨F, hF⟩ : ∃ F, fillM P v c m = F := ⟨_, rfl⟩
    rw [hF] at q3 ⊢
    obtain ⟨r, hr⟩ : ∃ r, someRes P v c m = r := ⟨_, rfl⟩
    have HR : Hid (someRes P v c m = r) := hr
    rw [hr] at q1 q2 q3
    have Q1 : Hid (Kof r.2 = upd (Kof m) v c r.1) := q1
    have Q2 : Hid (Okc P W r.2) := ⟨ho.p0, ho.p1, ho.w0, ho.w1, q2⟩
    have Q3 : Hid (F = if r.1 = [] then none else some r.2) := q3
    have QN : Hid (r.1 = [] → r.2 = m) := fun e => by rw [← hr] at e ⊢; exact res_nil e (fun p => fresh_free (W := W) hc)
    have hW := ho.w1
    clear h ho hk k3 q1 q2 q3 hF hr
    go_enter Tryz.func134, Tryz.ntmps134
    go_wp2_with fail
    go_region_law (refine step_call rfl 195 _ _ rfl [.pointer (some ⟨cb, 0, none⟩), .int .i64 (c : Nat)] (by simp [Act.eval, Act.put]) _ (ksome_any L cb fb hb a cap ps sh P W m (Kof m) v c _ (HC.out.drew 1) HO.out hv hc) ent_some ?_; rw [HR.out]; rintro e w2 ⟨a2, cap2, L2, a3, cap3, ps3, sh3, rfl, C2, M2, V2⟩; refine ⟨_, rfl, ?_⟩; have CC : Hid (Cm w2 L2 cb fb hb a3 cap3 ps3 sh3 P W (pgF r.2) r.2 (Kof m)) := C2; have MM : Hid (cMv L w.drew L2 w2) := M2; have VV : Hid (VAt w2 (fun k => L2 k = 1000 ∧ w.drew.heap.size ≤ k) 3 a2 (r.1.map numV) cap2) := V2; obtain ⟨ak2, ck2, j1, j2, j3⟩ := C2.kept v c hv hc; clear C2 M2 V2 j3)
    obtain ⟨L3, hL3⟩ : ∃ L3 : Nat → Nat, L3 = fun k => if w.heap.size ≤ k ∧ L2 k = 1000 then 6 + 2 * (v * 7 + c) else L2 k := ⟨_, rfl⟩
    have E3 : Ext w2 L2 L2 := Ext.refl _ _
    have C3 := CC.out.relab (L' := L3) hW (fun k hk => by rw [hL3]; simp [hk])
    have V3 : VAt w2 (fun k => L3 k = 6 + 2 * (v * 7 + c)) 3 a2 (r.1.map numV) cap2 := VV.out.mono (fun k _ e => by rw [hL3]; exact if_pos ⟨e.2, e.1⟩)
    obtain ⟨C4, M4⟩ := C3.shelf_put (Ext.refl w2 L3) v c hv hc (Tu.refl _ _) a2 r.1 cap2 V3
    rw [← Q1.out] at C4
    have MX : cMv L w L3 w2 := ⟨fun k hk => by have := MM.out.ext k hk; rw [hL3]; simp only; rw [if_neg (by omega)]; exact this, ⟨MM.out.tu.os, MM.out.tu.tape, MM.out.tu.output, MM.out.tu.size, MM.out.tu.block⟩⟩
    have MY : Hid (cMv L w L3 (w2.setCell ⟨hb, v * 7 + c, none⟩ (.slice a2 r.1.length cap2))) := MX.trans M4
    have CY : Hid (Cm (w2.setCell ⟨hb, v * 7 + c, none⟩ (.slice a2 r.1.length cap2)) L3 cb fb hb a3 cap3 ps3 (sh3.set (v * 7 + c) (.slice a2 r.1.length cap2)) P W (pgF r.2) r.2 (Kof r.2)) := C4
    obtain ⟨wz, hwz⟩ : ∃ wz, w2.setCell ⟨hb, v * 7 + c, none⟩ (.slice a2 r.1.length cap2) = wz := ⟨_, rfl⟩
    rw [hwz] at MY CY
    have HZ : Hid (w2.setCell ⟨hb, v * 7 + c, none⟩ (.slice a2 r.1.length cap2) = wz) := hwz
    rcases hr1 : r.1 with _ | ⟨x, l⟩
    · have EF : Hid (F = none) := by show F = none; rw [Q3.out, if_pos hr1]
      have EM : Hid (r.2 = m) := QN.out hr1
      have z1 : wz.cell? ⟨hb, v * 7 + c, none⟩ = some (.slice a2 0 cap2) := by
        obtain ⟨ak3, ck3, i1, _, _⟩ := CY.out.kept v c hv hc
        have e := CY.out.hrow
        rw [cell_of_row _ _ _ _ _ _ e]
        simp only [List.getElem?_toArray]
        rw [List.getElem?_set, if_pos rfl, if_pos, hr1]
        · rfl
        · rw [CC.out.shl]; have := Nat.mul_le_mul_right 7 hv; omega
      clear C3 C4 M4 V3 MX hL3 hwz
      rw [hr1] at HZ
      go_wp2_with (rw [HZ.out])
      go_ret2
      rw [EF.out]
      exact ⟨rfl, L3, ⟨fb, hb, a3, cap3, ps3, _, by have := CY.out; rw [EM.out] at this; exact this⟩, MY.out⟩
    · have EF : Hid (F = some r.2) := by show F = _; rw [Q3.out, if_neg (by rw [hr1]; simp)]
      have HKX : Hid (keptM v c r.2 = x :: l) := by
        have := congrFun (congrFun Q1.out v) c
        rw [cupd_at, hr1] at this
        exact this
      rw [hr1] at HZ
      clear C3 C4 M4 V3 MX hL3 hwz hr1
      obtain ⟨g, ck, s1, s2, s3, s4, s5, s6⟩ := small_head L3 cb fb hb _ _ _ _ P W r.2 v c x l wz.drew (CY.out.drew 1) Q2.out hv hc HKX.out
      obtain ⟨n1, hn1⟩ : ∃ n1, l.length + 1 = n1 := ⟨_, rfl⟩
      rw [hn1] at s1 s6
      have hn0 : ((n1 : Int) == 0) = false := beq_eq_false_iff_ne.2 (by omega)
      have hn2 : (0 : Int) < (n1 : Int) := by omega
      have SC : Hid _ := s6
      have s1' : wz.cell? ⟨hb, v * 7 + c, none⟩ = some (.slice (some ⟨g, 0, none⟩) n1 ck) := s1
      have s2' : wz.frozen? ⟨hb, v * 7 + c, none⟩ = false := s2
      have s3' : wz.cell? ⟨g, 0, none⟩ = some (.int .i64 (x : Nat)) := s3
      clear s1 s2 s3 s5 s6 hn1
      go_wp2_with (rw [HZ.out])
      go_region_law (refine step_call rfl 196 _ _ rfl [.slice (some ⟨g, 0, none⟩) n1 ck, .int .i64 0, .int .i64 1] (by simp [Act.eval]) _ SC.out ent_delI ?_; rintro e w9 ⟨n9, rfl, t1, t2, t3, t4⟩; refine ⟨_, rfl, ?_⟩; have CF : Hid (Ca (w9.setCell ⟨hb, v * 7 + c, none⟩ (.slice (some ⟨g, 0, none⟩) n9 ck)) L3 cb P W (setM x 1 r.2)) := t3; have MF : Hid (cMv L3 wz.drew L3 (w9.setCell ⟨hb, v * 7 + c, none⟩ (.slice (some ⟨g, 0, none⟩) n9 ck))) := t4; clear t3 t4)
      go_wp2
      go_ret2
      have MF' : cMv L3 wz L3 (w9.setCell ⟨hb, v * 7 + c, none⟩ (.slice (some ⟨g, 0, none⟩) n9 ck)) := ⟨MF.out.ext, ⟨MF.out.tu.os, MF.out.tu.tape, MF.out.tu.output, MF.out.tu.size, MF.out.tu.block⟩⟩
      rw [EF.out]
      refine ⟨by rw [HKX.out]; rfl, L3, ?_, MY.out.trans MF'⟩
      rw [HKX.out]; exact CF.out
  · have HKX : Hid (keptM v c m = x :: l) := hk
    have EF : Hid (fillM P v c m = some m) := by show _ = _; unfold fillM; rw [if_pos (by rw [hk]; simp)]
    clear h ho hk
    obtain ⟨g, ck, s1, s2, s3, s4, s5, s6⟩ := small_head L cb fb hb _ _ _ _ P W m v c x l w.drew (HC.out.drew 1) HO.out hv hc HKX.out
    obtain ⟨n1, hn1⟩ : ∃ n1, l.length + 1 = n1 := ⟨_, rfl⟩
    rw [hn1] at s1 s6
    have hn0 : ((n1 : Int) == 0) = false := beq_eq_false_iff_ne.2 (by omega)
    have hn2 : (0 : Int) < (n1 : Int) := by omega
    have SC : Hid _ := s6
    have s1' : w.cell? ⟨hb, v * 7 + c, none⟩ = some (.slice (some ⟨g, 0, none⟩) n1 ck) := s1
    have s2' : w.frozen? ⟨hb, v * 7 + c, none⟩ = false := s2
    have s3' : w.cell? ⟨g, 0, none⟩ = some (.int .i64 (x : Nat)) := s3
    clear s1 s2 s3 s5 s6 hn1
    go_enter Tryz.func134, Tryz.ntmps134
    go_wp2_with fail
    go_region_law (refine step_call rfl 196 _ _ rfl [.slice (some ⟨g, 0, none⟩) n1 ck, .int .i64 0, .int .i64 1] (by simp [Act.eval]) _ SC.out ent_delI ?_; rintro e w9 ⟨n9, rfl, t1, t2, t3, t4⟩; refine ⟨_, rfl, ?_⟩; have CF : Hid (Ca (w9.setCell ⟨hb, v * 7 + c, none⟩ (.slice (some ⟨g, 0, none⟩) n9 ck)) L cb P W (setM x 1 m)) := t3; have MF : Hid (cMv L w.drew L (w9.setCell ⟨hb, v * 7 + c, none⟩ (.slice (some ⟨g, 0, none⟩) n9 ck))) := t4; clear t3 t4)
    go_wp2
    go_ret2
    have MF' : cMv L w L (w9.setCell ⟨hb, v * 7 + c, none⟩ (.slice (some ⟨g, 0, none⟩) n9 ck)) := ⟨MF.out.ext, ⟨MF.out.tu.os, MF.out.tu.tape, MF.out.tu.output, MF.out.tu.size, MF.out.tu.block⟩⟩
    rw [EF.out]
    refine ⟨by rw [HKX.out]; rfl, L, ?_, MF'⟩
    rw [HKX.out]; exact CF.out
end Go.Proofs.YtgdjlopnhecmjaaGreatDoor

/- Layer 15: KaL again -/
namespace Go.Proofs.YtgdjlopnhecmjaaGreatDoor
open Go.RowKit
set_option linter.unusedVariables false
set_option maxRecDepth 4000
/-- What takeLarge leaves. -/
def LargeP (L : Nat → Nat) (w : World) (cb P W b : Nat) (m : List Sg) : Option Nat → Ending → World → Prop
  | none => fun e w' => e = .returned (.tuple #[.int .i64 0, .int .i64 13]) ∧ ∃ L', Ca w' L' cb P W m ∧ cMv L w L' w'
  | some p => fun e w' => e = .returned (.tuple #[.int .i64 ((256 * p : Nat) : Int), .int .i64 0]) ∧ ∃ L', Ca w' L' cb P W (ins (fresh p 7 b 1) m) ∧ cMv L w L' w'
theorem large_st : slN ((7 : Nat) : Int) = 1 := by decide
set_option maxHeartbeats 1000000 in
theorem ktakeL_any (L : Nat → Nat) (cb fb hb : Nat) (a : Option Addr) (cap : Nat) (ps : List Nat) (sh : List Value) (P W : Nat) (m : List Sg) (b : Nat) (w : World) (h : Cm w L cb fb hb a cap ps sh P W (pgF m) m (Kof m)) (ho : Okc P W m) (hb7 : ofI (b : Int) = 7) :
    Calls Tryz.prog 133 #[.pointer (some ⟨cb, 0, none⟩), .int .i64 (b : Nat)] w (LargeP L w cb P W b m (layP P (pagesN (b : Int)) 0 m)) := by
  have HC : Hid (Cm w L cb fb hb a cap ps sh P W (pgF m) m (Kof m)) := h
  have HO : Hid (Okc P W m) := ho
  have hP := ho.p1
  have hW := ho.w1
  have hW0 := ho.w0
  have H7 : Hid (ofI (b : Int) = 7) := hb7
  have EK : Hid (pgsN ((7 : Nat) : Int) (b : Int) = pagesN (b : Int)) := by show pgsN ((7 : Nat) : Int) (b : Int) = _; unfold pgsN; rw [if_pos (by rfl)]
  obtain ⟨k, hk⟩ : ∃ k, pagesN (b : Int) = k := ⟨_, rfl⟩
  have HK : Hid (pagesN (b : Int) = k) := hk
  rw [hk] at EK ⊢
  obtain ⟨o, hl⟩ : ∃ o, layP P k 0 m = o := ⟨_, rfl⟩
  have HL : Hid (layP P k 0 m = o) := hl
  rw [hl]
  clear h ho hl hk hb7
  go_enter Tryz.func133, Tryz.ntmps133
  go_wp2_with (go_at_call 194; refine (cpages_any (b : Int) _ HC.out.tab.1).mono ?_; rw [HK.out]; rintro e w' ⟨rfl, rfl⟩)
  refine (kbegin_any L cb fb hb a cap ps sh P W m (Kof m) 7 b k _ HC.out HO.out (by omega) (fun e => by omega) (fun _ => H7.out) EK.out).mono ?_
  rw [HL.out]
  intro e w2 hBP
  rcases o with _ | pg
  · obtain ⟨rfl, L2, a2, cap2, ps2, sh2, C2, M2⟩ := hBP
    have CC : Hid (Cm w2 L2 cb fb hb a2 cap2 ps2 sh2 P W (pgF m) m (Kof m)) := C2
    have MM : Hid (cMv L w L2 w2) := M2
    clear C2 M2
    go_wp2_with (go_at_call 192; refine (kfill_nil _).mono ?_; rintro e w3 ⟨rfl, rfl⟩)
    go_ret2
    exact ⟨rfl, L2, ⟨fb, hb, a2, cap2, ps2, sh2, CC.out⟩, MM.out⟩
  · obtain ⟨p, i, L2, a2, cap2, ps2, sh2, rfl, C2, M2, EU, hi, hp⟩ := hBP
    obtain ⟨L3, hL3⟩ : ∃ L3, lab L2 w2.heap.size 1000 = L3 := ⟨_, rfl⟩
    have E3 : Ext w2 L2 L3 := by rw [← hL3]; exact lab_ext _ _ _
    have N3 : ∀ j, w2.heap.size ≤ j → L3 j = 1000 := fun j hj => by rw [← hL3]; exact lab_new hj
    have C3 := C2.keep E3 (Below.refl _ _)
    have EI := EU (fresh pg 7 b 0) rfl
    have EI1 := EU (fresh pg 7 b 1) rfl
    obtain ⟨t, ht⟩ : ∃ t, fresh pg 7 b 0 = t := ⟨_, rfl⟩
    rw [ht] at EI C3
    have hok : t.Ok W := by rw [← ht]; exact fresh_ok (by omega) (fun e => by omega) (fun _ => H7.out) (by omega) (fun _ => by omega)
    have hok1 : (fresh pg 7 b 1).Ok W := fresh_ok (by omega) (fun e => by omega) (fun _ => H7.out) (by omega) (fun _ => by omega)
    have hkt : t.k = k := by rw [← ht]; exact EK.out
    have hpt : t.pg = pg := by rw [← ht]; rfl
    have hst : t.st = [0] := by rw [← ht]; show List.replicate (slN ((7 : Nat) : Int)) 0 = [0]; rw [large_st]; rfl
    have hat : t.at 0 = 256 * pg := by unfold Sg.at; rw [hpt]; omega
    have hfit : Fit W P 0 (ins t m) := Fit.lay hok HO.out.fit (by rw [hkt, hpt]; exact HL.out)
    have hfit1 : Fit W P 0 (ins (fresh pg 7 b 1) m) := Fit.lay hok1 HO.out.fit (by rw [show (fresh pg 7 b 1).k = k from EK.out]; exact HL.out)
    have hil : i < (ins t m).length := by rw [EI]; simp; omega
    have hgi : (ins t m)[i] = t := by
      have : (ins t m)[i]? = some t := by rw [EI, List.getElem?_append_right (by simp; omega)]; simp [Nat.min_eq_left hi]
      rw [List.getElem?_eq_getElem hil] at this
      exact Option.some.inj this
    obtain ⟨g9, p9, _, _, _, _, q1, q2⟩ := C3.at i hil
    rw [hgi] at q2
    obtain rfl : p9 = p := by rw [hp] at q1; exact (Option.some.inj q1).symm
    have RT : Hid (Rt (t.pg : Int) (t.cl : Int) (t.bts : Int)) := Sg.Ok.rt hfit hP (by have := List.getElem_mem hil; rw [hgi] at this; exact this)
    have KS : Hid (SpS w2 (fun j => L3 j = 5 + 2 * t.pg) p9 t) := q2
    have OK : Hid (t.Ok W) := hok
    have CC : Hid (Cm w2 L3 cb fb hb a2 cap2 ps2 sh2 P W (pgF (ins t m)) (ins t m) (Kof m)) := C3
    have MM : Hid (cMv L w L3 w2) := M2.trans (cMv.below E3 (Below.refl _ _))
    have APT : Hid (Apt (fun j => L3 j = 5 + 2 * t.pg) (fun j => w2.heap.size ≤ j)) := by
      have := CC.out.l0
      have := CC.out.l1
      have := CC.out.tab.1.1
      have := CC.out.tab.2.1
      refine ⟨fun j h1 h2 => ?_, by omega, by omega, by omega, by omega⟩
      have := N3 j h2
      omega
    have EP : Hid ((plS t zQ 0 t.st).take (4 - ([] : List Nat).length) = [256 * pg]) := by show _ = _; rw [hst, ← hat]; simp [plS, zQ]
    have hpl : i < ps2.length := by rw [CC.out.plen]; exact hil
    have hpe : ps2[i] = p9 := by rw [List.getElem?_eq_getElem hpl] at hp; exact Option.some.inj hp
    clear C2 M2 C3 q1 q2
    go_wp2_with fail
    refine (kfill_q 0 p9 0 t (fun j => L3 j = 5 + 2 * t.pg) (fun j => w2.heap.size ≤ j) none [] 0 W _ KS.out OK.out CC.out.tab RT.out (VAt.nil _ _ _) (fun j hj => hj) APT.out (by simp) rfl).mono ?_
    rintro e w3 ⟨a3, cap3, n3, rfl, hn3, f1, f2, f3⟩
    rw [EP.out] at hn3 f2
    have hn3' : n3 = 1 := by rw [← hn3]; rfl
    subst hn3'
    obtain ⟨g3, rfl, _, _, k4, _⟩ := f2.at 0 (by simp)
    have k4' : w3.cell? ⟨g3, 0, none⟩ = some (.int .i64 ((256 * pg : Nat) : Int)) := by rw [k4]; rfl
    have FIN : Hid (Ca w3 L3 cb P W (ins (fresh pg 7 b 1) m) ∧ cMv L3 w2 L3 w3) := by
      have tu' : Tu (fun k => (L3 k = 5 + 2 * ((ins t m)[i]).pg ∨ L3 k = 1000) ∨ w2.heap.size ≤ k) w2 w3 := by
        rw [hgi]; exact f3.mono (fun j _ hj => by rcases hj with e | e; exact .inl (.inl e); exact .inr e)
      have C5 := CC.out.spannedT hfit hW i hil hpl (someSt 0 (4 - ([] : List Nat).length) t.st) tu' (by simp only [hgi, hpe]; exact f1)
      refine ⟨⟨fb, hb, a2, cap2, ps2, sh2, ?_⟩, cMv.of (fun l => l = 5 + 2 * ((ins t m)[i]).pg ∨ l = 1000) (by omega) (Ext.refl _ _) tu'⟩
      have eP : pgF (ins (fresh pg 7 b 1) m) = pgF (ins t m) := by rw [pgF_ins, pgF_ins, ← ht]; rfl
      rw [eP, kof_is, kof_ins (Nat.le_refl 1) hfit1 HO.out.fit]
      have e6 : (ins t m).set i { (ins t m)[i] with st := someSt 0 (4 - ([] : List Nat).length) t.st } = m.take i ++ { t with st := someSt 0 (4 - ([] : List Nat).length) t.st } :: m.drop i := by
        rw [hgi]
        conv => lhs; rw [EI]
        rw [set_mid (by simp; omega)]
      rw [e6] at C5
      rw [EI1]
      refine C5.restate (by simp) (fun j hj => ?_)
      rcases Nat.lt_trichotomy j i with e | e | e
      · have e1 : (m.take i ++ fresh pg 7 b 1 :: m.drop i)[j]'(by simp at hj ⊢; omega) = (m.take i ++ ({ t with st := someSt 0 (4 - ([] : List Nat).length) t.st } : Sg) :: m.drop i)[j] := by
          rw [List.getElem_append_left (by simp; omega), List.getElem_append_left (by simp; omega)]
        rw [e1]; exact ⟨rfl, rfl, rfl, rfl⟩
      · subst e
        have e1 : (m.take j ++ fresh pg 7 b 1 :: m.drop j)[j]'(by simp at hj ⊢; omega) = fresh pg 7 b 1 := by rw [List.getElem_append_right (by simp; omega)]; simp [Nat.min_eq_left hi]
        have e2 : (m.take j ++ ({ t with st := someSt 0 (4 - ([] : List Nat).length) t.st } : Sg) :: m.drop j)[j] = { t with st := someSt 0 (4 - ([] : List Nat).length) t.st } := by rw [List.getElem_append_right (by simp; omega)]; simp [Nat.min_eq_left hi]
        rw [e1, e2]
        refine ⟨by rw [← ht]; rfl, by rw [← ht]; rfl, by rw [← ht]; rfl, ?_⟩
        funext y
        have s1 : (fresh pg 7 b 1).st = [1] := by show List.replicate (slN ((7 : Nat) : Int)) 1 = [1]; rw [large_st]; rfl
        unfold Sg.f
        rw [s1, hst]
        rcases y with _ | y
        · rfl
        · rfl
      · have e1 : (m.take i ++ fresh pg 7 b 1 :: m.drop i)[j]'(by simp at hj ⊢; omega) = (m.take i ++ ({ t with st := someSt 0 (4 - ([] : List Nat).length) t.st } : Sg) :: m.drop i)[j] := by
          obtain ⟨q, rfl⟩ : ∃ q, j = i + 1 + q := ⟨j - i - 1, by omega⟩
          rw [List.getElem_append_right (by simp; omega), List.getElem_append_right (by simp; omega)]
          simp only [List.length_take, Nat.min_eq_left hi, show i + 1 + q - i = q + 1 by omega, List.getElem_cons_succ]
        rw [e1]; exact ⟨rfl, rfl, rfl, rfl⟩
    clear f1 f2 f3 k4 hpe hgi hst hat hkt hpt hok hok1
    go_wp2
    go_ret2
    exact ⟨rfl, L3, FIN.out.1, MM.out.trans FIN.out.2⟩
end Go.Proofs.YtgdjlopnhecmjaaGreatDoor

/- Layer 15: KaM again -/
namespace Go.Proofs.YtgdjlopnhecmjaaGreatDoor
open Go.RowKit
set_option linter.unusedVariables false
set_option maxRecDepth 4000
/-- What a call that turns the cache leaves. -/
def Left (L : Nat → Nat) (w : World) (cb P W : Nat) (m : List Sg) (w' : World) : Prop := ∃ L', Ca w' L' cb P W m ∧ cMv L w L' w'
set_option maxHeartbeats 1000000 in
theorem ktake_any (L : Nat → Nat) (cb P W : Nat) (m : List Sg) (v n : Int) (w : World) (h : Ca w L cb P W m) (ho : Okc P W m) (hr : -1 ≤ ofI n ∧ ofI n ≤ 7) (hn7 : ofI n = 7 → 0 ≤ n) :
    Calls Tryz.prog 71 #[.pointer (some ⟨cb, 0, none⟩), .int .i64 v, .int .i64 n] w fun e w' => e = .returned (.tuple #[.int .i64 ((takeM P W v n m).1 : Nat), .int .i64 ((takeM P W v n m).2.1 : Nat)]) ∧ Left L w cb P W (takeM P W v n m).2.2 w' := by
  obtain ⟨fb, hb, a, cap, ps, sh, hC⟩ := h
  have HC : Hid (Cm w L cb fb hb a cap ps sh P W (pgF m) m (Kof m)) := hC
  have HO : Hid (Okc P W m) := ho
  have hW := ho.w1
  have c2 := hC.cell2
  obtain ⟨R, hR⟩ : ∃ R, takeM P W v n m = R := ⟨_, rfl⟩
  have HR : Hid (takeM P W v n m = R) := hR
  rw [hR]
  obtain ⟨q, hq⟩ : ∃ q, ofI n = q := ⟨_, rfl⟩
  have HQ : Hid (ofI n = q) := hq
  rw [hq] at hr hn7
  clear hC ho hR hq
  by_cases hw : 0 ≤ v ∧ v < (W : Int)
  · have HW : Hid (decide (0 ≤ v ∧ v < (W : Int)) = true) := decide_eq_true hw
    by_cases hm1 : q = -1
    · subst hm1
      have ER : Hid (R = (0, 2, m)) := by show R = _; rw [← HR.out]; unfold takeM; rw [if_pos (.inr HQ.out)]
      go_enter Tryz.func71, Tryz.ntmps71
      go_wp2_with (first
        | (go_at_call 131; refine (cof_any n _ HC.out.tab.1).mono ?_; rw [HQ.out]; rintro e w' ⟨rfl, rfl⟩)
        | (go_at_call 132; refine (khasW_any L cb fb hb a cap ps sh P W _ m _ v _ HC.out hW).mono ?_; rw [HW.out]; rintro e w' ⟨rfl, rfl⟩))
      go_ret2
      exact ⟨by rw [ER.out]; rfl, L, by rw [ER.out]; exact ⟨fb, hb, a, cap, ps, sh, HC.out⟩, cMv.refl _ _⟩
    · have hq0 : 0 ≤ q := by omega
      have hqn : ¬ (q < 0) := by omega
      by_cases h7 : q = 7
      · subst h7
        have hn0 := hn7 rfl
        obtain ⟨b, rfl⟩ : ∃ b : Nat, n = (b : Int) := ⟨n.toNat, by omega⟩
        have ER : Hid (R = match layP P (pagesN (b : Int)) 0 m with
            | none => (0, 13, m)
            | some p => (256 * p, 0, ins (fresh p 7 b 1) m)) := by
          show R = _
          rw [← HR.out]; unfold takeM
          rw [if_neg (by rw [HQ.out]; omega), if_pos HQ.out, Int.toNat_natCast]
          cases layP P (pagesN (b : Int)) 0 m <;> rfl
        go_enter Tryz.func71, Tryz.ntmps71
        go_wp2_with (first
          | (go_at_call 131; refine (cof_any (b : Int) _ HC.out.tab.1).mono ?_; rw [HQ.out]; rintro e w' ⟨rfl, rfl⟩)
          | (go_at_call 132; refine (khasW_any L cb fb hb a cap ps sh P W _ m _ v _ HC.out hW).mono ?_; rw [HW.out]; rintro e w' ⟨rfl, rfl⟩))
        refine (ktakeL_any L cb fb hb a cap ps sh P W m b _ HC.out HO.out HQ.out).mono ?_
        intro e w2 hP
        rcases hl : layP P (pagesN (b : Int)) 0 m with _ | p
        · rw [hl] at hP ER
          obtain ⟨rfl, L2, h1, h2⟩ := hP
          have F : Hid (Ca w2 L2 cb P W m ∧ cMv L w L2 w2) := ⟨h1, h2⟩
          clear h1 h2 hl
          go_wp2
          go_ret2
          exact ⟨by rw [ER.out]; rfl, L2, by rw [ER.out]; exact F.out.1, F.out.2⟩
        · rw [hl] at hP ER
          obtain ⟨rfl, L2, h1, h2⟩ := hP
          have F : Hid (Ca w2 L2 cb P W (ins (fresh p 7 b 1) m) ∧ cMv L w L2 w2) := ⟨h1, h2⟩
          clear h1 h2 hl
          go_wp2
          go_ret2
          exact ⟨by rw [ER.out]; rfl, L2, by rw [ER.out]; exact F.out.1, F.out.2⟩
      · obtain ⟨c, rfl⟩ : ∃ c : Nat, q = (c : Int) := ⟨q.toNat, by omega⟩
        obtain ⟨x, rfl⟩ : ∃ x : Nat, v = (x : Int) := ⟨v.toNat, by omega⟩
        have hx : x < W := by omega
        have hc7 : c < 7 := by omega
        have hq7 : ((c : Int) == 7) = false := beq_eq_false_iff_ne.2 h7
        have ER : Hid (R = match fillM P x c m with
            | none => (0, 13, m)
            | some m2 => ((keptM x c m2).headD 0, 0, setM ((keptM x c m2).headD 0) 1 m2)) := by
          show R = _
          rw [← HR.out]; unfold takeM
          rw [if_neg (by rw [HQ.out]; omega), if_neg (by rw [HQ.out]; exact h7), HQ.out, Int.toNat_natCast, Int.toNat_natCast]
          cases fillM P x c m <;> rfl
        have hx' : (x : Int) < (W : Int) := by omega
        have hx0 : (0 : Int) ≤ (x : Int) := by omega
        go_enter Tryz.func71, Tryz.ntmps71
        go_wp2_with (first
          | (go_at_call 131; refine (cof_any n _ HC.out.tab.1).mono ?_; rw [HQ.out]; rintro e w' ⟨rfl, rfl⟩)
          | (go_at_call 132; refine (khasW_any L cb fb hb a cap ps sh P W _ m _ (x : Int) _ HC.out hW).mono ?_; rw [HW.out]; rintro e w' ⟨rfl, rfl⟩))
        refine (ktakeS_any L cb fb hb a cap ps sh P W m x c _ HC.out HO.out hx hc7).mono ?_
        intro e w2 hP
        rcases hl : fillM P x c m with _ | m2
        · rw [hl] at hP ER
          obtain ⟨rfl, L2, h1, h2⟩ := hP
          have F : Hid (Ca w2 L2 cb P W m ∧ cMv L w L2 w2) := ⟨h1, h2⟩
          clear h1 h2 hl
          go_wp2
          go_ret2
          exact ⟨by rw [ER.out]; rfl, L2, by rw [ER.out]; exact F.out.1, F.out.2⟩
        · rw [hl] at hP ER
          obtain ⟨rfl, L2, h1, h2⟩ := hP
          obtain ⟨y, hy⟩ : ∃ y, (keptM x c m2).headD 0 = y := ⟨_, rfl⟩
          rw [hy] at h1
          have EY : Hid ((keptM x c m2).headD 0 = y) := hy
          have F : Hid (Ca w2 L2 cb P W (setM y 1 m2) ∧ cMv L w L2 w2) := ⟨h1, h2⟩
          rw [hy]
          clear h1 h2 hl hy
          go_wp2
          go_ret2
          exact ⟨by rw [ER.out]; show _ = Ending.returned (.tuple #[.int .i64 (((keptM x c m2).headD 0 : Nat) : Int), .int .i64 0]); rw [EY.out]; rfl, L2, by rw [ER.out]; show Ca w2 L2 cb P W (setM ((keptM x c m2).headD 0) 1 m2); rw [EY.out]; exact F.out.1, F.out.2⟩
  · have HW : Hid (decide (0 ≤ v ∧ v < (W : Int)) = false) := decide_eq_false hw
    have ER : Hid (R = (0, 2, m)) := by show R = _; rw [← HR.out]; unfold takeM; rw [if_pos (.inl hw)]
    go_enter Tryz.func71, Tryz.ntmps71
    go_wp2_with (first
      | (go_at_call 131; refine (cof_any n _ HC.out.tab.1).mono ?_; rw [HQ.out]; rintro e w' ⟨rfl, rfl⟩)
      | (go_at_call 132; refine (khasW_any L cb fb hb a cap ps sh P W _ m _ v _ HC.out hW).mono ?_; rw [HW.out]; rintro e w' ⟨rfl, rfl⟩))
    go_ret2
    exact ⟨by rw [ER.out]; rfl, L, by rw [ER.out]; exact ⟨fb, hb, a, cap, ps, sh, HC.out⟩, cMv.refl _ _⟩
end Go.Proofs.YtgdjlopnhecmjaaGreatDoor
