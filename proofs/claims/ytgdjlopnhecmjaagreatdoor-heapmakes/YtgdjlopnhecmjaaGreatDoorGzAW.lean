/- Layer 15: KaP again -/
import Derived.Test.YtgdjlopnhecmjaaGreatDoorGzAV
import Derived.Test.YtgdjlopnhecmjaaGreatDoorGzAJ
namespace Go.Proofs.YtgdjlopnhecmjaaGreatDoor
open Go.RowKit
set_option linter.unusedVariables false
set_option maxRecDepth 4000
theorem ent_page : (match Tryz.prog.funcs[178]? with | some fn => !(fn.name == "runtime.NumGoroutine") && !fn.body.isNone | none => false) = true := by kernel_rfl
theorem ent_pages : (match Tryz.prog.funcs[179]? with | some fn => !(fn.name == "runtime.NumGoroutine") && !fn.body.isNone | none => false) = true := by kernel_rfl
theorem ent_ugive : (match Tryz.prog.funcs[201]? with | some fn => !(fn.name == "runtime.NumGoroutine") && !fn.body.isNone | none => false) = true := by kernel_rfl
set_option maxHeartbeats 1000000 in
theorem kend_any (L : Nat → Nat) (cb fb hb : Nat) (a : Option Addr) (cap : Nat) (ps : List Nat) (sh : List Value) (P W : Nat) (φ : Nat → Bool) (m : List Sg) (K : Nat → Nat → List Nat) (p : Nat) (s : Sg) (w : World) (h : Cm w L cb fb hb a cap ps sh P W φ m K) (hbx : Bx w p (s.pg : Int) (s.cl : Int) (s.bts : Int)) (rt : Rt (s.pg : Int) (s.cl : Int) (s.bts : Int)) (hP : P ≤ 4096) (hle : s.pg + s.k ≤ P) (hall : AllF φ s.pg s.k true) :
    Calls Tryz.prog 141 #[.pointer (some ⟨cb, 0, none⟩), .pointer (some ⟨p, 0, none⟩)] w fun e w' => e = .returned (.tuple #[]) ∧ Cm w' (lab L w.heap.size 2) cb fb hb a cap ps sh P W (turnU φ s.pg s.k false) m K ∧ Tu (fun k => L k = 2 ∨ w.heap.size ≤ k) w w' := by
  have HC : Hid (Cm w L cb fb hb a cap ps sh P W φ m K) := h
  have HB : Hid (Bx w.drew p (s.pg : Int) (s.cl : Int) (s.bts : Int)) := hbx.drew
  have HTC : Hid (TabC w.drew) := h.tab.1
  have c0 := h.cell0
  have FR : Hid (IsR w.drew (fun j => L j = 2 ∨ w.heap.size ≤ j) fb P φ) := (h.free.mono (fun i _ e => .inl e)).drew
  have h0 := rt.c0
  have h7 := rt.c7
  obtain ⟨k, hk⟩ : ∃ k, s.k = k := ⟨_, rfl⟩
  have EK : Hid (pgsN (s.cl : Int) (s.bts : Int) = k) := hk
  have hk1 : 1 ≤ k := by have := rt.facts.2.2.2.2.2.2.1; have e : s.k = pgsN (s.cl : Int) (s.bts : Int) := rfl; omega
  rw [hk] at hle hall ⊢
  have HALL : Hid (AllF φ s.pg k true) := hall
  have PC : Hid (Calls Tryz.prog 179 #[.pointer (some ⟨p, 0, none⟩)] w.drew fun e w' => e = .returned (.int .i64 (k : Nat)) ∧ w' = w.drew) := (pages_q p _ _ _ k w.drew HB.out HTC.out h0 h7 EK.out)
  clear h hbx rt hall hk
  go_enter Tryz.func141, Tryz.ntmps141
  go_wp2_with fail
  go_region_law (first
    | (refine step_call rfl 178 _ _ rfl [.pointer (some ⟨p, 0, none⟩)] (by simp [Act.eval, Act.put]) _ (page_any p _ _ _ w.drew HB.out) ent_page ?_; rintro e w2 ⟨rfl, rfl⟩; refine ⟨_, rfl, ?_⟩)
    | (refine step_call rfl 179 _ _ rfl [.pointer (some ⟨p, 0, none⟩)] (by simp [Act.eval]) _ PC.out ent_pages ?_; rintro e w2 ⟨rfl, rfl⟩; refine ⟨_, rfl, ?_⟩)
    | (refine step_call rfl 201 _ _ rfl [.pointer (some ⟨fb, 0, none⟩), .int .i64 (s.pg : Int), .int .i64 (k : Int)] (by simp [Act.eval]) _ (ugive_any _ fb P φ (s.pg : Int) (k : Int) w.drew FR.out (fun i hi => .inr hi) (by omega) (by omega) (by omega)) ent_ugive ?_; rintro e w2 ⟨r, f', rfl, hU, i1, t1⟩; refine ⟨_, rfl, ?_⟩; have HU : Hid (TurnR P φ (s.pg : Int) (k : Int) false r f') := hU; have I1 : Hid (IsR w2 (fun j => L j = 2 ∨ w.heap.size ≤ j) fb P f') := i1; have T1 : Hid (Tu (fun j => L j = 2 ∨ w.heap.size ≤ j) w.drew w2) := t1; clear hU i1 t1))
  all_goals
    go_wp2
    go_end0
    have T1' : Tu (fun j => L j = 2 ∨ w.heap.size ≤ j) w w2 := ⟨T1.out.os, T1.out.tape, T1.out.output, T1.out.size, T1.out.block⟩
    obtain ⟨_, rfl⟩ : r = 0 ∧ f' = turnU φ s.pg k false := HU.out.one (.inr (.inr ⟨by omega, by omega, by omega, by rw [Int.toNat_natCast, Int.toNat_natCast]; exact HALL.out, rfl, by rw [Int.toNat_natCast, Int.toNat_natCast]⟩))
    refine ⟨rfl, HC.out.freed (lab_ext w L 2) T1' (I1.out.mono (fun i _ hi => ?_)), T1'⟩
    unfold lab; split
    · rcases hi with e | e
      · exact e
      · omega
    · rfl
end Go.Proofs.YtgdjlopnhecmjaaGreatDoor

/- Layer 15: KaQ again -/
namespace Go.Proofs.YtgdjlopnhecmjaaGreatDoor
open Go.RowKit
set_option linter.unusedVariables false
set_option maxRecDepth 4000
theorem delP_q (S : Nat → Prop) (g n : Nat) (l : List Value) (cap i j : Nat) (w : World) (h : VAt w S 190 (some ⟨g, 0, none⟩) l cap) (hij : i < j) (hj : j ≤ n) (hn : l.length = n) (hl : n ≤ 100000) (h1 : ∀ v ∈ l, v.oneCell' = true) :
    Calls Tryz.prog 155 #[.slice (some ⟨g, 0, none⟩) n cap, .int .i64 (i : Nat), .int .i64 (j : Nat)] w fun e w' => ∃ n', e = .returned (.slice (some ⟨g, 0, none⟩) n' cap) ∧ (l.take i ++ l.drop j).length = n' ∧ VAt w' S 190 (some ⟨g, 0, none⟩) (l.take i ++ l.drop j) cap ∧ Only g w w' := by
  subst hn
  refine (delP_any S g l cap i j w h hij hj hl h1).mono ?_
  rintro e w' ⟨rfl, h⟩
  exact ⟨_, rfl, rfl, h⟩
/-- A span is gone from the list. -/
theorem Cm.dropped {w w1 : World} {L : Nat → Nat} {cb fb hb g : Nat} {cap : Nat} {ps : List Nat} {sh : List Value} {P W : Nat} {φ : Nat → Bool} {m : List Sg} {K : Nat → Nat → List Nat} (h : Cm w L cb fb hb (some ⟨g, 0, none⟩) cap ps sh P W φ m K) (hO : Only g w w1) (i : Nat) (hi : i < m.length) (hv : VAt w1 (fun k => L k = 3) 190 (some ⟨g, 0, none⟩) ((ps.map ptrV).take i ++ (ps.map ptrV).drop (i + 1)) cap) :
    Cm (w1.setCell ⟨cb, 1, none⟩ (.slice (some ⟨g, 0, none⟩) (m.length - 1) cap)) L cb fb hb (some ⟨g, 0, none⟩) cap (ps.take i ++ ps.drop (i + 1)) sh P W φ (m.take i ++ m.drop (i + 1)) K ∧ cMv L w L (w1.setCell ⟨cb, 1, none⟩ (.slice (some ⟨g, 0, none⟩) (m.length - 1) cap)) := by
  have hcb := hlt h.box
  have hlb := h.lb
  have hg3 : L g = 3 := by obtain ⟨g', e, hg, _⟩ := h.row.at i (by rw [List.length_map, h.plen]; exact hi); cases e; exact hg
  have b1 : w1.heap[cb]? = some (.cells #[.pointer (some ⟨fb, 0, none⟩), .slice (some ⟨g, 0, none⟩) m.length cap, .slice (some ⟨hb, 0, none⟩) W W] 189 (0, 0)) := by rw [hO.block cb (fun e => by rw [e] at hlb; omega)]; exact h.box
  have hO2 : Only cb w1 (w1.setCell ⟨cb, 1, none⟩ (.slice (some ⟨g, 0, none⟩) (m.length - 1) cap)) := Only.set cb 1 _ w1
  have ht : Tu (fun k => (L k = 1 ∨ L k = 3) ∨ w.heap.size ≤ k) w (w1.setCell ⟨cb, 1, none⟩ (.slice (some ⟨g, 0, none⟩) (m.length - 1) cap)) := (Tu.ofOnly hO (.inl (.inr hg3))).trans (Tu.ofOnly hO2 (.inl (.inl hlb)))
  have s := h.stayZ (fun l => l = 1 ∨ l = 3) (by omega) (Ext.refl _ _) ht
  have hpl := h.plen
  have hm : (m.take i ++ m.drop (i + 1)).length = m.length - 1 := by simp; omega
  refine ⟨⟨s.tab, s.l0, s.l1, ?_, s.lb, s.free (by omega), ?_, by rw [hm]; simp; omega, fun j hj => ?_, s.hrow (by omega), s.lh, h.shl, fun v c hv hc => s.shelf v c hv hc (by omega)⟩, cMv.of (fun l => l = 1 ∨ l = 3) (by omega) (Ext.refl _ _) ht⟩
  · rw [hm, heap_setCell_same w1 cb 1 _ _ _ b1]; rfl
  · rw [List.map_append, List.map_take, List.map_drop]
    exact hv.same (old_only hO2 (by rw [hlb]; omega))
  · rw [hm] at hj
    rcases Nat.lt_or_ge j i with e | e
    · have e1 : (m.take i ++ m.drop (i + 1))[j]'(by rw [hm]; omega) = m[j]'(by omega) := by rw [List.getElem_append_left (by simp; omega)]; simp
      have e2 : (ps.take i ++ ps.drop (i + 1))[j]'(by simp; omega) = ps[j]'(by omega) := by rw [List.getElem_append_left (by simp; omega)]; simp
      rw [e1, e2]; exact s.spans j (by omega) (by omega) (by omega)
    · have e1 : (m.take i ++ m.drop (i + 1))[j]'(by rw [hm]; omega) = m[j + 1]'(by omega) := by
        rw [List.getElem_append_right (by simp; omega)]
        simp only [List.length_take, Nat.min_eq_left (by omega : i ≤ m.length), List.getElem_drop]
        congr 1; omega
      have e2 : (ps.take i ++ ps.drop (i + 1))[j]'(by simp; omega) = ps[j + 1]'(by omega) := by
        rw [List.getElem_append_right (by simp; omega)]
        simp only [List.length_take, Nat.min_eq_left (by omega : i ≤ ps.length), List.getElem_drop]
        congr 1; omega
      rw [e1, e2]; exact s.spans (j + 1) (by omega) (by omega) (by omega)
theorem allF_pg {W P : Nat} {m : List Sg} {s : Sg} (hs : s ∈ m) : AllF (pgF m) s.pg s.k true := fun i h1 h2 => pgF_true.2 ⟨s, hs, h1, h2⟩
theorem slots_kept {m : List Sg} {v c : Nat} {T : List Nat} (h : ∀ x ∈ T, x ∈ keptM v c m) : Slots m T := fun x hx => by obtain ⟨z, hz⟩ := mem_keptM.1 (h x hx); exact ⟨z, c, _, hz⟩
set_option maxHeartbeats 1000000 in
theorem kgive_any (L : Nat → Nat) (cb P W : Nat) (m : List Sg) (v x : Int) (w : World) (h : Ca w L cb P W m) (ho : Okc P W m) (hx : -9223372036854775808 ≤ x ∧ x ≤ 9223372036854775807) :
    Calls Tryz.prog 94 #[.pointer (some ⟨cb, 0, none⟩), .int .i64 v, .int .i64 x] w fun e w' => e = .returned (.int .i64 ((giveM W v x m).1 : Nat)) ∧ Left L w cb P W (giveM W v x m).2 w' := by
  obtain ⟨fb, hb, a, cap, ps, sh, hC⟩ := h
  have HC : Hid (Cm w L cb fb hb a cap ps sh P W (pgF m) m (Kof m)) := hC
  have HO : Hid (Okc P W m) := ho
  have hW := ho.w1
  have hP := ho.p1
  have hml := ho.fit.len
  obtain ⟨R, hR⟩ : ∃ R, giveM W v x m = R := ⟨_, rfl⟩
  have HR : Hid (giveM W v x m = R) := hR
  rw [hR]
  clear hC ho hR
  by_cases hw : 0 ≤ v ∧ v < (W : Int)
  · have HW : Hid (decide (0 ≤ v ∧ v < (W : Int)) = true) := decide_eq_true hw
    cases hlv : liveB m x
    · have HL : Hid (liveB m x = false) := hlv
      have ER : Hid (R = (10, m)) := by
        show R = _
        rw [← HR.out]; unfold giveM
        rw [if_neg (by omega)]
        have : (if 0 ≤ x then liveC x.toNat m else none) = none := by
          split
          · rename_i h0
            unfold liveB at hlv
            rw [decide_eq_true h0, Bool.true_and] at hlv
            cases hq : liveC x.toNat m with
            | none => rfl
            | some c => rw [hq] at hlv; cases hlv
          · rfl
        rw [this]
      clear hlv
      go_enter Tryz.func94, Tryz.ntmps94
      go_wp2_with (go_at_call 132; refine (khasW_any L cb fb hb a cap ps sh P W _ m _ v _ HC.out hW).mono ?_; rw [HW.out]; rintro e w' ⟨rfl, rfl⟩)
      refine (klive_any L cb fb hb a cap ps sh P W _ m x _ HC.out HO.out hx false HL.out).mono ?_
      rintro e w1 ⟨rfl, b1⟩
      have B1 : Hid (Below w.heap.size w w1) := b1
      clear b1
      go_wp2
      go_ret
      exact ⟨by rw [ER.out]; rfl, L, by rw [ER.out]; exact ⟨fb, hb, a, cap, ps, sh, HC.out.keep (Ext.refl _ _) B1.out⟩, cMv.below (Ext.refl _ _) B1.out⟩
    · obtain ⟨h0, z, c, hin⟩ := (liveB_of HO.out.fit).1 hlv
      obtain ⟨y, rfl⟩ : ∃ y : Nat, x = (y : Int) := ⟨x.toNat, by omega⟩
      obtain ⟨u, rfl⟩ : ∃ u : Nat, v = (u : Int) := ⟨v.toNat, by omega⟩
      rw [Int.toNat_natCast] at hin
      have hu : u < W := by omega
      have HL : Hid (liveB m (y : Int) = true) := hlv
      have HI : Hid (In m y z c 1) := hin
      have hcb := hin.bound HO.out.fit
      have ER : Hid (R = if c = 7 then (0, dropM y m) else (0, trimM u c (setM y (u + 2) m))) := by
        show R = _
        rw [← HR.out]; unfold giveM
        rw [if_neg (by omega), if_pos h0, Int.toNat_natCast, Int.toNat_natCast, liveC_of HO.out.fit hin]
      clear hlv hin
      go_enter Tryz.func94, Tryz.ntmps94
      go_wp2_with (go_at_call 132; refine (khasW_any L cb fb hb a cap ps sh P W _ m _ (u : Int) _ HC.out hW).mono ?_; rw [HW.out]; rintro e w' ⟨rfl, rfl⟩)
      refine (klive_any L cb fb hb a cap ps sh P W _ m (y : Int) _ HC.out HO.out hx true HL.out).mono ?_
      rintro e w1 ⟨rfl, b1⟩
      have B1 : Hid (Below w.heap.size w w1) := b1
      have C1 : Hid (Cm w1 L cb fb hb a cap ps sh P W (pgF m) m (Kof m)) := HC.out.keep (Ext.refl _ _) b1
      clear b1
      go_wp2_with fail
      refine (kfind_any L cb fb hb a cap ps sh P W _ m _ (y : Int) _ C1.out HO.out).mono ?_
      rintro e w2 ⟨i, hF, rfl, b2⟩
      have HF : Hid (FindM m (y : Nat) i) := hF
      have hil : i < m.length := hF.lt HO.out.fit HI.out
      have C2 : Hid (Cm w2 L cb fb hb a cap ps sh P W (pgF m) m (Kof m)) := C1.out.keep (Ext.refl _ _) b2
      have M2 : Hid (cMv L w L w2) := (cMv.below (Ext.refl _ _) B1.out).trans (cMv.below (Ext.refl _ _) b2)
      obtain ⟨ga, p, rfl, _, _, kk, kp, ks⟩ := C2.out.at i hil
      have hcl : m[i].cl = c := by obtain ⟨_, _, _, _, e⟩ := (hF.in HO.out.fit hil).1 HI.out; exact e.symm
      have RT0 := Sg.Ok.rt HO.out.fit HO.out.p1 (List.getElem_mem hil)
      have hle := (HO.out.fit.ok _ (List.getElem_mem hil)).2.2
      have hall : AllF (pgF m) m[i].pg m[i].k true := allF_pg (W := W) (P := P) (List.getElem_mem hil)
      have hdr : c = 7 → dropM y m = m.take i ++ m.drop (i + 1) ∧ pgF (dropM y m) = turnU (pgF m) m[i].pg m[i].k false := fun e => by
        subst e
        have := drop_list HO.out.fit HI.out hF hil
        exact ⟨this.1, this.2.1⟩
      obtain ⟨s, hs⟩ : ∃ s, m[i] = s := ⟨_, rfl⟩
      rw [hs] at ks hcl RT0 hle hall hdr
      obtain ⟨bb, gg, z1, _⟩ := ks
      have BX : Hid (Bx w2 p (s.pg : Int) (s.cl : Int) (s.bts : Int)) := z1.box
      have RT : Hid (Rt (s.pg : Int) (s.cl : Int) (s.bts : Int)) := RT0
      have HALL : Hid (AllF (pgF m) s.pg s.k true) := hall
      have HLE : Hid (s.pg + s.k ≤ P) := hle
      have HDR : Hid (c = 7 → dropM y m = m.take i ++ m.drop (i + 1) ∧ pgF (dropM y m) = turnU (pgF m) s.pg s.k false) := hdr
      have c1 := C2.out.cell1
      have c2 := C2.out.cell2
      have hii : (i : Int) < (m.length : Int) := by omega
      have hi0 : (0 : Int) ≤ (i : Int) := by omega
      have PL : Hid ((ps.map ptrV).length = m.length) := by show _ = _; rw [List.length_map]; exact C2.out.plen
      clear hF b2 kp z1 RT0 hall hle hdr hs
      by_cases h7 : c = 7
      · subst h7
        rw [if_pos rfl] at ER
        have h77 : ((s.cl : Int) == 7) = true := by rw [beq_iff_eq, hcl]; rfl
        have KF : Hid (Kof (dropM y m) = Kof m) := kf_dropM HO.out.fit HI.out
        go_wp2_with (first
          | (go_at_call 154; refine (class_any p _ _ _ _ BX.out).mono ?_; rintro e w3 ⟨rfl, rfl⟩)
          | (go_at_call 141; refine (kend_any L cb fb hb _ cap ps sh P W (pgF m) m (Kof m) p s _ C2.out BX.out RT.out hP HLE.out HALL.out).mono ?_; rintro e w3 ⟨rfl, C3, T3⟩; have CC3 : Hid (Cm w3 (lab L w2.heap.size 2) cb fb hb (some ⟨ga, 0, none⟩) cap ps sh P W (turnU (pgF m) s.pg s.k false) m (Kof m)) := C3; have TT3 : Hid (cMv L w2 (lab L w2.heap.size 2) w3) := (cMv.of (fun l => l = 2) (by omega) (lab_ext w2 L 2) T3); have c3 := C3.cell1; have y3 := C3.thawed 1; clear C3 T3)
          | (go_at_call 155; rw [show ((i : Int) + 1) = ((i + 1 : Nat) : Int) from rfl]; refine (delP_q _ ga m.length (ps.map ptrV) cap i (i + 1) _ CC3.out.row (by omega) (by omega) PL.out (by omega) (ptrs_one _)).mono ?_; rintro e w4 ⟨n4, rfl, hn4, v4, o4⟩; have V4 : Hid (VAt w4 (fun k => lab L w2.heap.size 2 k = 3) 190 (some ⟨ga, 0, none⟩) ((ps.map ptrV).take i ++ (ps.map ptrV).drop (i + 1)) cap) := v4; have O4 : Hid (Only ga w3 w4) := o4; have N4 : Hid (n4 = m.length - 1) := (by show _ = _; have := PL.out; rw [← hn4]; simp at this ⊢; omega); have hgc : ga ≠ cb := (fun e => by obtain ⟨g', e', hg', _⟩ := CC3.out.row.at i (by rw [PL.out]; exact hil); cases e'; have := CC3.out.lb; rw [e] at hg'; omega); have c4 : w4.cell? ⟨cb, 1, none⟩ = some (.slice (some ⟨ga, 0, none⟩) m.length cap) := (by rw [o4.cell (p := ⟨cb, 1, none⟩) (fun e => hgc e.symm)]; exact c3); have y4 : w4.frozen? ⟨cb, 1, none⟩ = false := (by rw [o4.frozen (p := ⟨cb, 1, none⟩) (fun e => hgc e.symm)]; exact y3); clear hn4 v4 o4 hgc))
        go_ret
        obtain ⟨C5, M5⟩ := CC3.out.dropped O4.out i hil V4.out
        rw [← N4.out] at C5 M5
        obtain ⟨d1, d2⟩ := HDR.out trivial
        refine ⟨by rw [ER.out]; rfl, _, ⟨fb, hb, some ⟨ga, 0, none⟩, cap, ps.take i ++ ps.drop (i + 1), sh, ?_⟩, (M2.out.trans TT3.out).trans M5⟩
        rw [ER.out]
        show Cm _ _ _ _ _ _ _ _ _ _ _ (pgF (dropM y m)) (dropM y m) (Kof (dropM y m))
        rw [KF.out, d2, d1]
        exact C5
      · have hc7 : c < 7 := by omega
        rw [if_neg h7] at ER
        have h77 : ((s.cl : Int) == 7) = false := beq_eq_false_iff_ne.2 (by omega)
        have hu' : (u : Int) < (W : Int) := by omega
        have hu0 : (0 : Int) ≤ (u : Int) := by omega
        have hc7' : (c : Int) < 7 := by omega
        have hc0 : (0 : Int) ≤ (c : Int) := by omega
        obtain ⟨q1, q2⟩ := Kof_ok HO.out u c
        have q3 : (Kof m u c).length ≤ 99999 := by have := pl_le (keptQ u c) HO.out.fit; show (pl (keptQ u c) m).length ≤ _; omega
        have Q1 : Hid ((Kof m u c).Pairwise (· < ·) ∧ (Kof m u c).length ≤ 99999) := ⟨q1, q3⟩
        have ECL : Hid ((s.cl : Int) = (c : Int)) := by show _ = _; rw [hcl]
        clear q1 q2 q3
        go_wp2_with (first
          | (go_at_call 154; refine (class_any p _ _ _ _ BX.out).mono ?_; rw [ECL.out]; rintro e w3 ⟨rfl, rfl⟩))
        refine (kput_any L cb fb hb _ cap ps sh P W (pgF m) m (Kof m) u c y _ C2.out hu hc7 Q1.out.1 Q1.out.2).mono ?_
        rintro e w3 ⟨rfl, i3, L3, sh3, BR, C3, M3⟩
        have hnk : y ∉ Kof m u c := fun hy => by
          obtain ⟨z', hz'⟩ := mem_keptM.1 hy
          have := (hz'.one HO.out.fit HI.out).2.2; omega
        obtain ⟨p1, p2⟩ := put_rises Q1.out.1 hnk BR.le BR.low BR.high
        obtain ⟨g1, g2⟩ := kf_give HO.out.fit hu hc7 HI.out p1 p2
        have C3' : Cm w3 L3 cb fb hb (some ⟨ga, 0, none⟩) cap ps sh3 P W (pgF (setM y (u + 2) m)) (setM y (u + 2) m) (Kof (setM y (u + 2) m)) := by
          rw [show pgF (setM y (u + 2) m) = pgF m from pgF_turn _ _, kof_is, g1]
          refine C3.turned _ (fun s' hs' j y' hy' => ?_)
          by_cases e : s'.at j = y
          · rw [if_pos e]
            have hin' : In m y s'.z s'.cl y' := ⟨s', hs', j, hy', e.symm, rfl, rfl⟩
            have := (hin'.one HO.out.fit HI.out).2.2
            omega
          · rw [if_neg e]
        obtain ⟨m1, hm1⟩ : ∃ m1, setM y (u + 2) m = m1 := ⟨_, rfl⟩
        rw [hm1] at C3' g2 ER
        have CC3 : Hid (Cm w3 L3 cb fb hb (some ⟨ga, 0, none⟩) cap ps sh3 P W (pgF m1) m1 (Kof m1)) := C3'
        have MM3 : Hid (cMv L w L3 w3) := M2.out.trans M3
        have HO1 : Hid (Okc P W m1) := ⟨HO.out.p0, HO.out.p1, HO.out.w0, HO.out.w1, g2⟩
        obtain ⟨ak, ck, k1, k2, k3⟩ := C3'.kept u c hu hc7
        have hlen := (Kof_ok HO1.out u c).2
        obtain ⟨n, hn⟩ : ∃ n, (Kof m1 u c).length = n := ⟨_, rfl⟩
        have EN : Hid ((keptM u c m1).length = n) := hn
        rw [hn] at k1 hlen
        clear BR C3 M3 hnk p1 p2 g1 g2 C3' k3 hm1 hn
        by_cases h8 : 8 < n
        · have h8' : (8 : Int) < (n : Int) := by omega
          have ET : Hid (trimM u c m1 = setsM ((keptM u c m1).drop (n - 4)) 0 m1) := by show _ = _; unfold trimM; rw [EN.out, if_pos h8]
          have KD : Hid (Kof (setsM ((keptM u c m1).drop (n - 4)) 0 m1) = upd (Kof m1) u c ((keptM u c m1).take (n - 4))) := kf_drop HO1.out.fit (n - 4)
          have hw4 : IntKind.i64.wrap ((n : Int) - 4) = ((n - 4 : Nat) : Int) := by rw [IntKind.wrap_i64]; omega
          have hw5 : (n : Int) - 4 = ((n - 4 : Nat) : Int) := by omega
          go_wp2_with (go_at_call 136; (try rw [hw5]); refine (krel_any L3 cb fb hb _ cap ps sh3 P W m1 (Kof m1) u c (n - 4) _ CC3.out HO1.out hu hc7 (by rw [show (Kof m1 u c).length = n from EN.out]; omega) (by rw [show (Kof m1 u c).length = n from EN.out]; exact hlen) (slots_kept (fun x hx => List.mem_of_mem_drop hx))).mono ?_; rintro e w4 ⟨rfl, L4, sh4, C4, M4⟩; have CC4 : Hid _ := C4; have MM4 : Hid (cMv L3 w3 L4 w4) := M4; clear C4 M4)
          go_ret
          refine ⟨by rw [ER.out]; rfl, L4, ?_, MM3.out.trans MM4.out⟩
          rw [ER.out]
          show Ca w4 L4 cb P W (trimM u c m1)
          rw [ET.out]
          exact ⟨fb, hb, _, cap, ps, sh4, by rw [KD.out]; exact CC4.out⟩
        · have h8' : ¬ ((8 : Int) < (n : Int)) := by omega
          have ET : Hid (trimM u c m1 = m1) := by show _ = _; unfold trimM; rw [EN.out, if_neg h8]
          go_wp2
          go_ret
          refine ⟨by rw [ER.out]; rfl, L3, ?_, MM3.out⟩
          rw [ER.out]
          show Ca w3 L3 cb P W (trimM u c m1)
          rw [ET.out]
          exact ⟨fb, hb, _, cap, ps, sh3, CC3.out⟩
  · have HW : Hid (decide (0 ≤ v ∧ v < (W : Int)) = false) := decide_eq_false hw
    have ER : Hid (R = (2, m)) := by show R = _; rw [← HR.out]; unfold giveM; rw [if_pos hw]
    go_enter Tryz.func94, Tryz.ntmps94
    go_wp2_with (go_at_call 132; refine (khasW_any L cb fb hb a cap ps sh P W _ m _ v _ HC.out hW).mono ?_; rw [HW.out]; rintro e w' ⟨rfl, rfl⟩)
    go_ret
    exact ⟨by rw [ER.out]; rfl, L, by rw [ER.out]; exact ⟨fb, hb, a, cap, ps, sh, HC.out⟩, cMv.refl _ _⟩
end Go.Proofs.YtgdjlopnhecmjaaGreatDoor

/- Layer 15: KaR again -/
namespace Go.Proofs.YtgdjlopnhecmjaaGreatDoor
open Go.RowKit
set_option linter.unusedVariables false
set_option maxRecDepth 4000
end Go.Proofs.YtgdjlopnhecmjaaGreatDoor

/- Layer 15: KaS again -/
namespace Go.Proofs.YtgdjlopnhecmjaaGreatDoor
open Go.RowKit
set_option linter.unusedVariables false
set_option maxRecDepth 4000
theorem clonei_nil (n c : Nat) (w : World) :
    Calls Tryz.prog 171 #[.slice none n c] w fun e w' => e = .returned (.slice none 0 0) ∧ w = w' := by
  have q : ∀ (w : World) (a : Option Addr) (n c n' c' : Nat), (binOp .eql 40 (.slice a n c) (.slice none n' c')).run Tryz.prog w = .ok (.bool a.isNone) w := fun w a n c n' c' => Lib.run_eql_slice_nil w _ _ a n c n' c' Tryz.underlying40
  go_enter Tryz.func171, Tryz.ntmps171
  go_wp2
  go_ret
  exact ⟨rfl, rfl⟩
theorem clonei_at (ad : Addr) (c : Nat) (l : List Int) (w : World) (hB : IsI w (some ad) l) (hlen : l.length ≤ 17592186044416) :
    Calls Tryz.prog 171 #[.slice (some ad) l.length c] w fun e w' => ∃ a' c', e = .returned (.slice a' l.length c') ∧ OwnsI w' w.heap.size a' l c' ∧ Below w.heap.size w w' := by
  have q : ∀ (w : World) (a : Option Addr) (n c n' c' : Nat), (binOp .eql 40 (.slice a n c) (.slice none n' c')).run Tryz.prog w = .ok (.bool a.isNone) w := fun w a n c n' c' => Lib.run_eql_slice_nil w _ _ a n c n' c' Tryz.underlying40
  obtain ⟨a', c', w', hrun, o, _, b⟩ := appi_run w ad l c hB hlen
  have O : Hid (OwnsI w' w.heap.size a' l c') := o
  have B : Hid (Below w.heap.size w w') := b
  clear hB o b
  go_enter Tryz.func171, Tryz.ntmps171
  go_wp2_with (at_builtin; refine wpList_runi rfl rfl _ _ rfl _ _ _ _ rfl rfl hrun ?_)
  go_ret
  exact ⟨a', c', rfl, O.out, B.out⟩
/-- Clone of numbers. -/
theorem clonei_any (a : Option Addr) (c n : Nat) (l : List Int) (w : World) (hn : n = l.length) (hB : IsI w a l) (hnil : a = none → l = [] ∧ c = 0) (hlen : l.length ≤ 17592186044416) :
    Calls Tryz.prog 171 #[.slice a n c] w fun e w' => ∃ a' c', e = .returned (.slice a' l.length c') ∧ OwnsI w' w.heap.size a' l c' ∧ Below w.heap.size w w' := by
  subst hn
  rcases a with _ | ad
  · obtain ⟨rfl, rfl⟩ := hnil rfl
    refine (clonei_nil _ _ w).mono ?_
    rintro e w' ⟨rfl, rfl⟩
    exact ⟨none, 0, rfl, ownsI_none _ _, Below.refl _ _⟩
  · exact clonei_at ad c l w hB hlen

end Go.Proofs.YtgdjlopnhecmjaaGreatDoor

/- Layer 15: KaT again -/
namespace Go.Proofs.YtgdjlopnhecmjaaGreatDoor
open Go.RowKit
set_option linter.unusedVariables false
set_option maxRecDepth 4000
theorem Tryz.info211 : (Tryz.prog.info? 211).map (fun i => (i.zero, i.size, i.bytes)) = some (some (.agg #[.slice none 0 0, .slice none 0 0, .slice none 0 0, .slice none 0 0, .slice none 0 0, .slice none 0 0, .slice none 0 0]), 7, 168) := by kernel_rfl
theorem made_S (n : Nat) : madeCells #[.slice none 0 0, .slice none 0 0, .slice none 0 0, .slice none 0 0, .slice none 0 0, .slice none 0 0, .slice none 0 0] (n * 7) = (List.replicate (n * 7) (Value.slice none 0 0)).toArray := by
  apply Array.toList_inj.1
  unfold madeCells
  apply List.ext_getElem
  · simp
  · intro i h1 h2
    simp
    have : i % 7 < 7 := Nat.mod_lt _ (by omega)
    obtain h | h | h | h | h | h | h : i % 7 = 0 ∨ i % 7 = 1 ∨ i % 7 = 2 ∨ i % 7 = 3 ∨ i % 7 = 4 ∨ i % 7 = 5 ∨ i % 7 = 6 := by omega
    all_goals rw [h]; rfl
theorem make_S (w : World) (n : Nat) (hn : n ≤ 8) : (Instr.makeSlice 187 (.int .i64 (n : Nat)) (.int .i64 (n : Nat))).run Tryz.prog w = .ok (.slice (some ⟨w.heap.size, 0, none⟩) n n) (w.alloc (.cells (List.replicate (n * 7) (Value.slice none 0 0)).toArray 211)) := by
  obtain ⟨i0, hi0, hz0, hs0, hb0⟩ := info_parts Tryz.info211
  have h := run_make (P := Tryz.prog) w 187 211 i0 _ Tryz.underlying187 hi0 hz0 .i64 .i64 (n : Int) (n : Int) (by omega) (Int.le_refl _) (by rw [hb0]; omega) (by omega)
  rw [h, hs0]
  simp only [Int.toNat_natCast, Value.cells, made_S]
/-- A cache that was just made. -/
def Born (w : World) (cb P W : Nat) (m : List Sg) (w' : World) : Prop := (∃ L, Ca w' L cb P W m ∧ ∀ k, k < w.heap.size → L k = 0) ∧ Below w.heap.size w w'
set_option maxHeartbeats 1000000 in
theorem kfrom_nil (P W : Nat) (w : World) (hT : Tabs w) (hp : 1 ≤ P ∧ P ≤ 4096) (hw : 1 ≤ W ∧ W ≤ 8) :
    Calls Tryz.prog 61 #[.int .i64 (P : Nat), .int .i64 (W : Nat), .slice none 0 0] w fun e w' => ∃ cb, e = .returned (.tuple #[.pointer (some ⟨cb, 0, none⟩), .int .i64 0]) ∧ Born w cb P W [] w' := by
  have HT : Hid (Tabs w) := hT
  have h1 : ¬ ((P : Int) < 1) := by omega
  have h2 : ¬ ((4096 : Int) < (P : Int)) := by omega
  have h3 : ¬ ((W : Int) < 1) := by omega
  have h4 : ¬ ((8 : Int) < (W : Int)) := by omega
  have MK : ∀ w : World, (Instr.makeSlice 187 (.int .i64 (W : Nat)) (.int .i64 (W : Nat))).run Tryz.prog w = .ok (.slice (some ⟨w.heap.size, 0, none⟩) W W) (w.alloc (.cells (List.replicate (W * 7) (Value.slice none 0 0)).toArray 211)) := fun w => make_S w _ (by omega)
  clear hT
  go_enter Tryz.func61, Tryz.ntmps61
  go_wp2_with fail
  refine (new_any P _ (by omega)).mono ?_
  rintro e w1 ⟨rfl, i1, b1⟩
  have I1 : Hid (IsR w1 (fun k => w.heap.size ≤ k) w.heap.size P (fun _ => false)) := i1
  have B1 : Hid (Below w.heap.size w w1) := b1
  obtain ⟨fb, hfb⟩ : ∃ fb, w.heap.size = fb := ⟨_, rfl⟩
  have EFB : Hid (w.heap.size = fb) := hfb
  rw [hfb]
  clear i1 b1 hfb
  obtain ⟨wz, hwz⟩ : ∃ wz, (w1.alloc (.cells (List.replicate (W * 7) (Value.slice none 0 0)).toArray 211)).alloc (.cells #[.pointer (some ⟨fb, 0, none⟩), .slice none 0 0, .slice (some ⟨w1.heap.size, 0, none⟩) W W] 189) = wz := ⟨_, rfl⟩
  have HWZ : Hid ((w1.alloc (.cells (List.replicate (W * 7) (Value.slice none 0 0)).toArray 211)).alloc (.cells #[.pointer (some ⟨fb, 0, none⟩), .slice none 0 0, .slice (some ⟨w1.heap.size, 0, none⟩) W W] 189) = wz) := hwz
  have BZ : Hid (Below w1.heap.size w1 wz) := by show Below _ _ _; rw [← hwz]; exact ((Below.refl _ w1).alloc (Nat.le_refl _) _).alloc (by simp) _
  have BORN : Hid (Born w (w1.heap.size + 1) P W [] wz) := by
    have hcb : wz.heap[w1.heap.size + 1]? = some (.cells #[.pointer (some ⟨fb, 0, none⟩), .slice none 0 0, .slice (some ⟨w1.heap.size, 0, none⟩) W W] 189 (0, 0)) := by
      rw [← hwz]
      have := Go.heap_alloc_new (w1.alloc (.cells (List.replicate (W * 7) (Value.slice none 0 0)).toArray 211)) (.cells #[.pointer (some ⟨fb, 0, none⟩), .slice none 0 0, .slice (some ⟨w1.heap.size, 0, none⟩) W W] 189)
      rw [World.size_alloc] at this
      exact this
    have hhb : wz.heap[w1.heap.size]? = some (.cells (List.replicate (W * 7) (Value.slice none 0 0)).toArray 211 (0, 0)) := by
      rw [← hwz, Go.heap_alloc_old _ _ (by simp)]; exact Go.heap_alloc_new w1 _
    have hs1 := B1.out.size
    have ht0 := HT.out.1.1
    have ht1 := HT.out.2.1
    obtain ⟨Lz, hLz⟩ : ∃ Lz : Nat → Nat, Lz = fun k => if k < w.heap.size then 0 else if k < w1.heap.size then 2 else if k = w1.heap.size then 4 else if k = w1.heap.size + 1 then 1 else 0 := ⟨_, rfl⟩
    have z0 : ∀ k, k < w.heap.size → Lz k = 0 := fun k hk => by rw [hLz]; simp [hk]
    refine ⟨⟨Lz, ⟨fb, w1.heap.size, none, 0, [], List.replicate (W * 7) (.slice none 0 0), ?_⟩, z0⟩, B1.out.trans (BZ.out.mono hs1)⟩
    refine ⟨(HT.out.keep B1.out).keep BZ.out, z0 0 (by omega), z0 1 (by omega), hcb, ?_, ?_, VAt.nil _ _ _, rfl, fun i hi => by simp at hi, hhb, ?_, by simp, fun v c hv hc => ⟨none, 0, ?_, VAt.nil _ _ _⟩⟩
    · rw [hLz]; simp only; rw [if_neg (by omega), if_neg (by omega), if_neg (by omega), if_pos trivial]
    · rw [show pgF [] = fun _ => false from rfl, ← EFB.out]
      refine (I1.out.mono (fun i hi e => ?_)).keep BZ.out
      rw [hLz]
      simp only
      rw [if_neg (by omega), if_pos hi]
    · rw [hLz]; simp only; rw [if_neg (by omega), if_neg (by omega), if_pos trivial]
    · show _ = some (Value.slice none 0 0)
      have : v * 7 + c < W * 7 := by have := Nat.mul_le_mul_right 7 hv; omega
      rw [List.getElem?_replicate, if_pos this]
  clear hwz
  go_wp2_with (rw [HWZ.out])
  go_loopw [39] (fun iv wr => iv = .int .i64 0 ∧ wz = wr) (fun _ _ => 0)
  case atStart => exact ⟨rfl, HWZ.out.symm⟩
  case round =>
    obtain ⟨rfl, rfl⟩ := hrel
    go_wp2
    go_ret2
    exact ⟨w1.heap.size + 1, rfl, BORN.out⟩
end Go.Proofs.YtgdjlopnhecmjaaGreatDoor

/- Layer 15: KaU again -/
namespace Go.Proofs.YtgdjlopnhecmjaaGreatDoor
open Go.RowKit
set_option linter.unusedVariables false
set_option maxRecDepth 4000
end Go.Proofs.YtgdjlopnhecmjaaGreatDoor
