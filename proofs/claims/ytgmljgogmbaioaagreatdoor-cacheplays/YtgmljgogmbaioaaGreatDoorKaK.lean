/- What takeSmall does. -/
import Derived.Test.YtgmljgogmbaioaaGreatDoorKaJ
namespace Go.Proofs.YtgmljgogmbaioaaGreatDoor
open Go.RowKit
set_option linter.unusedVariables false
set_option maxRecDepth 4000

/-- What takeSmall leaves. -/
def SmallP (L : Nat → Nat) (w : World) (cb P W v c : Nat) (m : List Sg) : Option (List Sg) → Ending → World → Prop
  | none => fun e w' => e = .returned (.tuple #[.int .i64 0, .int .i64 13]) ∧ ∃ L', Ca w' L' cb P W m ∧ Mv L w L' w'
  | some m2 => fun e w' => e = .returned (.tuple #[.int .i64 (((keptM v c m2).headD 0 : Nat) : Int), .int .i64 0]) ∧ ∃ L', Ca w' L' cb P W (setM ((keptM v c m2).headD 0) 1 m2) ∧ Mv L w L' w'
theorem res_nil {P v c : Nat} {m : List Sg} (h : (someRes P v c m).1 = []) (hs : ∀ p, freeP c (ins (fresh p c 0 0) m) ≠ []) : (someRes P v c m).2 = m := by
  have take_ne : ∀ l : List Nat, l ≠ [] → l.take 4 ≠ [] := fun l h e => by
    cases l with
    | nil => exact h rfl
    | cons x l => simp at e
  unfold someRes at h ⊢
  split at h
  · rename_i hf; exact absurd h (take_ne _ hf)
  · rename_i hf
    rw [if_neg hf]
    cases hl : layP P 1 0 m with
    | none => rfl
    | some p => rw [hl] at h; exact absurd h (take_ne _ (hs p))
theorem fresh_free {W p c : Nat} {m : List Sg} (hc : c < 7) : freeP c (ins (fresh p c 0 0) m) ≠ [] := fun e => by
  have hs : 1 ≤ slN (c : Int) := by
    have := (fresh_ok (W := W) (p := p) (c := c) (b := 0) (x := 0) (by omega) (fun _ => rfl) (fun e => by omega) (by omega) (fun _ => by omega)).facts.1
    simpa [fresh] using this
  have : (fresh p c 0 0).at 0 ∈ freeP c (ins (fresh p c 0 0) m) := mem_freeP.2 ⟨(fresh p c 0 0).z, ins_in.2 (.inl ⟨0, by show (List.replicate (slN (c : Int)) 0)[0]? = some 0; rw [List.getElem?_replicate, if_pos (by omega)], rfl, rfl, rfl⟩)⟩
  rw [e] at this; cases this
theorem kof_len {P W : Nat} {m : List Sg} (ho : Okc P W m) (v c : Nat) : (keptM v c m).length ≤ 100000 := (Kof_ok ho v c).2
set_option maxHeartbeats 1000000 in
theorem ktakeS_any (L : Nat → Nat) (cb fb hb : Nat) (a : Option Addr) (cap : Nat) (ps : List Nat) (sh : List Value) (P W : Nat) (m : List Sg) (v c : Nat) (w : World) (h : Cm w L cb fb hb a cap ps sh P W (pgF m) m (Kof m)) (ho : Okc P W m) (hv : v < W) (hc : c < 7) :
    Calls Tryz.prog 65 #[.pointer (some ⟨cb, 0, none⟩), .pointer (some ⟨hb, v * 7, none⟩), .int .i64 (c : Nat)] w (SmallP L w cb P W v c m (fillM P v c m)) := by
  have hc7' : (c : Int) < 7 := by omega
  have hc0 : (0 : Int) ≤ (c : Int) := by omega
  have HC : Hid (Cm w L cb fb hb a cap ps sh P W (pgF m) m (Kof m)) := h
  have HO : Hid (Okc P W m) := ho
  rcases hk : keptM v c m with _ | ⟨x, l⟩
  · obtain ⟨ak, ck, k1, k2, k3⟩ := h.kept v c hv hc
    rw [show Kof m v c = [] from hk] at k1
    obtain ⟨q1, q2, q3⟩ := fill_res ho.fit hv hc hk
    obtain ⟨F, hF⟩ : ∃ F, fillM P v c m = F := ⟨_, rfl⟩
    rw [hF] at q3 ⊢
    obtain ⟨r, hr⟩ : ∃ r, someRes P v c m = r := ⟨_, rfl⟩
    have HR : Hid (someRes P v c m = r) := hr
    rw [hr] at q1 q2 q3
    have Q1 : Hid (Kof r.2 = upd (Kof m) v c r.1) := q1
    have Q2 : Hid (Okc P W r.2) := ⟨ho.p0, ho.p1, ho.w0, ho.w1, q2⟩
    have Q3 : Hid (F = if r.1 = [] then none else some r.2) := q3
    have QN : Hid (r.1 = [] → r.2 = m) := fun e => by rw [← hr] at e ⊢; exact res_nil e (fun p => fresh_free (W := W) hc)
    have hW := ho.w1
    clear h ho hk k3 q1 q2 q3 hF hr
    go_enter Tryz.func65, Tryz.ntmps65
    go_wp2_with fail
    go_region_law (refine step_call rfl 99 _ _ rfl [.pointer (some ⟨cb, 0, none⟩), .int .i64 (c : Nat)] (by simp [Act.eval, Act.put]) _ (ksome_any L cb fb hb a cap ps sh P W m (Kof m) v c _ (HC.out.drew 1) HO.out hv hc) ent_some ?_; rw [HR.out]; rintro e w2 ⟨a2, cap2, L2, a3, cap3, ps3, sh3, rfl, C2, M2, V2⟩; refine ⟨_, rfl, ?_⟩; have CC : Hid (Cm w2 L2 cb fb hb a3 cap3 ps3 sh3 P W (pgF r.2) r.2 (Kof m)) := C2; have MM : Hid (Mv L w.drew L2 w2) := M2; have VV : Hid (VAt w2 (fun k => L2 k = 1000 ∧ w.drew.heap.size ≤ k) 3 a2 (r.1.map numV) cap2) := V2; obtain ⟨ak2, ck2, j1, j2, j3⟩ := C2.kept v c hv hc; clear C2 M2 V2 j3)
    obtain ⟨L3, hL3⟩ : ∃ L3 : Nat → Nat, L3 = fun k => if w.heap.size ≤ k ∧ L2 k = 1000 then 6 + 2 * (v * 7 + c) else L2 k := ⟨_, rfl⟩
    have E3 : Ext w2 L2 L2 := Ext.refl _ _
    have C3 := CC.out.relab (L' := L3) hW (fun k hk => by rw [hL3]; simp [hk])
    have V3 : VAt w2 (fun k => L3 k = 6 + 2 * (v * 7 + c)) 3 a2 (r.1.map numV) cap2 := VV.out.mono (fun k _ e => by rw [hL3]; exact if_pos ⟨e.2, e.1⟩)
    obtain ⟨C4, M4⟩ := C3.shelf_put (Ext.refl w2 L3) v c hv hc (Tu.refl _ _) a2 r.1 cap2 V3
    rw [← Q1.out] at C4
    have MX : Mv L w L3 w2 := ⟨fun k hk => by have := MM.out.ext k hk; rw [hL3]; simp only; rw [if_neg (by omega)]; exact this, ⟨MM.out.tu.os, MM.out.tu.tape, MM.out.tu.output, MM.out.tu.size, MM.out.tu.block⟩⟩
    have MY : Hid (Mv L w L3 (w2.setCell ⟨hb, v * 7 + c, none⟩ (.slice a2 r.1.length cap2))) := MX.trans M4
    have CY : Hid (Cm (w2.setCell ⟨hb, v * 7 + c, none⟩ (.slice a2 r.1.length cap2)) L3 cb fb hb a3 cap3 ps3 (sh3.set (v * 7 + c) (.slice a2 r.1.length cap2)) P W (pgF r.2) r.2 (Kof r.2)) := C4
    obtain ⟨wz, hwz⟩ : ∃ wz, w2.setCell ⟨hb, v * 7 + c, none⟩ (.slice a2 r.1.length cap2) = wz := ⟨_, rfl⟩
    rw [hwz] at MY CY
    have HZ : Hid (w2.setCell ⟨hb, v * 7 + c, none⟩ (.slice a2 r.1.length cap2) = wz) := hwz
    rcases hr1 : r.1 with _ | ⟨x, l⟩
    · have EF : Hid (F = none) := by show F = none; rw [Q3.out, if_pos hr1]
      have EM : Hid (r.2 = m) := QN.out hr1
      have z1 : wz.cell? ⟨hb, v * 7 + c, none⟩ = some (.slice a2 0 cap2) := by
        obtain ⟨ak3, ck3, i1, _, _⟩ := CY.out.kept v c hv hc
        have e := CY.out.hrow
        rw [cell_of_row _ _ _ _ _ _ e]
        simp only [List.getElem?_toArray]
        rw [List.getElem?_set, if_pos rfl, if_pos, hr1]
        · rfl
        · rw [CC.out.shl]; have := Nat.mul_le_mul_right 7 hv; omega
      clear C3 C4 M4 V3 MX hL3 hwz
      rw [hr1] at HZ
      go_wp2_with (rw [HZ.out])
      go_ret2
      rw [EF.out]
      exact ⟨rfl, L3, ⟨fb, hb, a3, cap3, ps3, _, by have := CY.out; rw [EM.out] at this; exact this⟩, MY.out⟩
    · have EF : Hid (F = some r.2) := by show F = _; rw [Q3.out, if_neg (by rw [hr1]; simp)]
      have HKX : Hid (keptM v c r.2 = x :: l) := by
        have := congrFun (congrFun Q1.out v) c
        rw [upd_at, hr1] at this
        exact this
      rw [hr1] at HZ
      clear C3 C4 M4 V3 MX hL3 hwz hr1
      obtain ⟨g, ck, s1, s2, s3, s4, s5, s6⟩ := small_head L3 cb fb hb _ _ _ _ P W r.2 v c x l wz.drew (CY.out.drew 1) Q2.out hv hc HKX.out
      obtain ⟨n1, hn1⟩ : ∃ n1, l.length + 1 = n1 := ⟨_, rfl⟩
      rw [hn1] at s1 s6
      have hn0 : ((n1 : Int) == 0) = false := beq_eq_false_iff_ne.2 (by omega)
      have hn2 : (0 : Int) < (n1 : Int) := by omega
      have SC : Hid _ := s6
      have s1' : wz.cell? ⟨hb, v * 7 + c, none⟩ = some (.slice (some ⟨g, 0, none⟩) n1 ck) := s1
      have s2' : wz.frozen? ⟨hb, v * 7 + c, none⟩ = false := s2
      have s3' : wz.cell? ⟨g, 0, none⟩ = some (.int .i64 (x : Nat)) := s3
      clear s1 s2 s3 s5 s6 hn1
      go_wp2_with (rw [HZ.out])
      go_region_law (refine step_call rfl 96 _ _ rfl [.slice (some ⟨g, 0, none⟩) n1 ck, .int .i64 0, .int .i64 1] (by simp [Act.eval]) _ SC.out ent_delI ?_; rintro e w9 ⟨n9, rfl, t1, t2, t3, t4⟩; refine ⟨_, rfl, ?_⟩; have CF : Hid (Ca (w9.setCell ⟨hb, v * 7 + c, none⟩ (.slice (some ⟨g, 0, none⟩) n9 ck)) L3 cb P W (setM x 1 r.2)) := t3; have MF : Hid (Mv L3 wz.drew L3 (w9.setCell ⟨hb, v * 7 + c, none⟩ (.slice (some ⟨g, 0, none⟩) n9 ck))) := t4; clear t3 t4)
      go_wp2
      go_ret2
      have MF' : Mv L3 wz L3 (w9.setCell ⟨hb, v * 7 + c, none⟩ (.slice (some ⟨g, 0, none⟩) n9 ck)) := ⟨MF.out.ext, ⟨MF.out.tu.os, MF.out.tu.tape, MF.out.tu.output, MF.out.tu.size, MF.out.tu.block⟩⟩
      rw [EF.out]
      refine ⟨by rw [HKX.out]; rfl, L3, ?_, MY.out.trans MF'⟩
      rw [HKX.out]; exact CF.out
  · have HKX : Hid (keptM v c m = x :: l) := hk
    have EF : Hid (fillM P v c m = some m) := by show _ = _; unfold fillM; rw [if_pos (by rw [hk]; simp)]
    clear h ho hk
    obtain ⟨g, ck, s1, s2, s3, s4, s5, s6⟩ := small_head L cb fb hb _ _ _ _ P W m v c x l w.drew (HC.out.drew 1) HO.out hv hc HKX.out
    obtain ⟨n1, hn1⟩ : ∃ n1, l.length + 1 = n1 := ⟨_, rfl⟩
    rw [hn1] at s1 s6
    have hn0 : ((n1 : Int) == 0) = false := beq_eq_false_iff_ne.2 (by omega)
    have hn2 : (0 : Int) < (n1 : Int) := by omega
    have SC : Hid _ := s6
    have s1' : w.cell? ⟨hb, v * 7 + c, none⟩ = some (.slice (some ⟨g, 0, none⟩) n1 ck) := s1
    have s2' : w.frozen? ⟨hb, v * 7 + c, none⟩ = false := s2
    have s3' : w.cell? ⟨g, 0, none⟩ = some (.int .i64 (x : Nat)) := s3
    clear s1 s2 s3 s5 s6 hn1
    go_enter Tryz.func65, Tryz.ntmps65
    go_wp2_with fail
    go_region_law (refine step_call rfl 96 _ _ rfl [.slice (some ⟨g, 0, none⟩) n1 ck, .int .i64 0, .int .i64 1] (by simp [Act.eval]) _ SC.out ent_delI ?_; rintro e w9 ⟨n9, rfl, t1, t2, t3, t4⟩; refine ⟨_, rfl, ?_⟩; have CF : Hid (Ca (w9.setCell ⟨hb, v * 7 + c, none⟩ (.slice (some ⟨g, 0, none⟩) n9 ck)) L cb P W (setM x 1 m)) := t3; have MF : Hid (Mv L w.drew L (w9.setCell ⟨hb, v * 7 + c, none⟩ (.slice (some ⟨g, 0, none⟩) n9 ck))) := t4; clear t3 t4)
    go_wp2
    go_ret2
    have MF' : Mv L w L (w9.setCell ⟨hb, v * 7 + c, none⟩ (.slice (some ⟨g, 0, none⟩) n9 ck)) := ⟨MF.out.ext, ⟨MF.out.tu.os, MF.out.tu.tape, MF.out.tu.output, MF.out.tu.size, MF.out.tu.block⟩⟩
    rw [EF.out]
    refine ⟨by rw [HKX.out]; rfl, L, ?_, MF'⟩
    rw [HKX.out]; exact CF.out
end Go.Proofs.YtgmljgogmbaioaaGreatDoor
