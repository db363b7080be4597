/- The document's cache: what Live and Take answer and do. -/
import Derived.Test.YtgmljgogmbaioaaGreatDoorMfHI
namespace Go.Proofs.YtgmljgogmbaioaaGreatDoor
open Go.RowKit
set_option linter.unusedVariables false
set_option maxRecDepth 4000

/-- A slot's state: where it lies, and what is so when it is turned. -/
structure Spot (w : World) (M : Nat → Nat) (rb P W : Nat) (m : List Sg) (k j : Nat) (s : Sg) (x n cap g q L : Nat) : Prop where
  b2 : w.cell? ⟨rb, 2, none⟩ = some (.slice (some ⟨g, 0, none⟩) n cap)
  c0 : w.cell? ⟨g, k * 4, none⟩ = some (.int .i64 (s.pg : Nat))
  c1 : w.cell? ⟨g, k * 4 + 1, none⟩ = some (.int .i64 (s.cl : Nat))
  c3 : w.cell? ⟨g, k * 4 + 3, none⟩ = some (.slice (some ⟨q, 0, none⟩) L L)
  cx : w.cell? ⟨q, j, none⟩ = some (.int .i64 (x : Nat))
  fz : w.frozen? ⟨q, j, none⟩ = false
  set : ∀ v : Nat, Rf (w.setCell ⟨q, j, none⟩ (.int .i64 (v : Nat))) M rb P W (setM (s.at j) v m) ∧ Tu (fun k => M k ≠ 0) w (w.setCell ⟨q, j, none⟩ (.int .i64 (v : Nat)))
  kn : k < n
  jL : j < L
  L16 : L ≤ 16
  nn : m.length = n
  qr : rb ≠ q
  qg : g ≠ q
theorem Rf.spot {w : World} {M : Nat → Nat} {rb P W : Nat} {m : List Sg} (h : Rf w M rb P W m) (hf : Fit W P 0 m) (k j : Nat) (hk : k < m.length) (hj : j < m[k].st.length) : ∃ cap g q, Spot w M rb P W m k j m[k] m[k].st[j] m.length cap g q m[k].st.length := by
  obtain ⟨a, cap, gs, hR⟩ := h
  obtain ⟨g, q, rfl, hg2, hgl, hq, c0, c1, c2, c3, cq, hMq⟩ := hR.at k hk
  refine ⟨cap, g, q, hR.box2, c0, c1, c3, st_cell cq j hj, frozen_of_row _ _ _ _ _ cq, fun v => ?_, hk, hj, (hf.ok _ (List.getElem_mem hk)).1.facts.2.1, rfl, fun e => by rw [← e, hR.lb] at hMq; omega, fun e => by rw [← e, hg2] at hMq; omega⟩
  have e1 : m.take k ++ m[k] :: m.drop (k + 1) = m := by rw [← List.drop_eq_getElem_cons hk, List.take_append_drop]
  have hl : (m.take k).length = k := by rw [List.length_take]; omega
  have hR' : Rm w M rb (some ⟨g, 0, none⟩) cap gs P W (m.take k ++ m[k] :: m.drop (k + 1)) := by rw [e1]; exact hR
  obtain ⟨h1, h2, h3⟩ := hR'.put (by rw [e1]; exact hf.pgs.1) j v q hj (by rw [hl]; exact hq)
  have e2 : setM (m[k].at j) v m = m.take k ++ { m[k] with st := m[k].st.set j v } :: m.drop (k + 1) := by
    rw [set_at hf k j v hk hj, List.set_eq_take_append_cons_drop, if_pos hk]
  rw [e2]
  exact ⟨⟨_, _, _, h1⟩, Tu.ofOnly h2 (by rw [hMq]; omega)⟩
theorem find_live {W P : Nat} {m : List Sg} (hf : Fit W P 0 m) {x : Int} (k j : Nat) (hk : k < m.length) (hj : j < m[k].st.length) (hx : x = ((m[k].at j : Nat) : Int)) : liveB m x = decide (m[k].st[j] = 1) := by
  have hin : In m (m[k].at j) m[k].z m[k].cl m[k].st[j] := ⟨m[k], List.getElem_mem hk, j, List.getElem?_eq_getElem hj, rfl, rfl, rfl⟩
  by_cases h : m[k].st[j] = 1
  · rw [decide_eq_true h, liveB_of hf]
    refine ⟨by omega, m[k].z, m[k].cl, ?_⟩
    rw [hx, Int.toNat_natCast, ← h]; exact hin
  · rw [decide_eq_false h]
    cases e : liveB m x
    · rfl
    · obtain ⟨_, z, c, h1⟩ := (liveB_of hf).1 e
      rw [hx, Int.toNat_natCast] at h1
      exact absurd (In.one hf hin h1).2.2 h
theorem find_dead {W P : Nat} {m : List Sg} (hf : Fit W P 0 m) {x : Int} (h : ∀ k (hk : k < m.length) j, j < m[k].st.length → x ≠ ((m[k].at j : Nat) : Int)) : liveB m x = false := by
  cases e : liveB m x
  · rfl
  · obtain ⟨h0, z, c, s, hs, i, h1, h2, _⟩ := (liveB_of hf).1 e
    obtain ⟨k, hk, rfl⟩ := List.getElem_of_mem hs
    exact absurd (by omega) (h k hk i (List.getElem?_eq_some_iff.1 h1).1)
theorem bool_dec {p : Prop} [Decidable p] {b : Bool} (h : decide p = b) : b = decide p := h.symm
set_option maxHeartbeats 1000000 in
theorem mlive_any (M : Nat → Nat) (rb P W : Nat) (m : List Sg) (x : Int) (w : World) (h : Rf w M rb P W m) (ho : Okc P W m) (h2 : 2 ≤ w.heap.size) (hx : -9223372036854775808 ≤ x ∧ x ≤ 9223372036854775807) (r : Bool) (hr : liveB m x = r) :
    Calls Tryz.prog 35 #[.pointer (some ⟨rb, 0, none⟩), .int .i64 x] w fun e w' => e = .returned (.bool r) ∧ Below w.heap.size w w' := by
  have HR : Hid (Rf w M rb P W m) := h
  have HO : Hid (Okc P W m) := ho
  have H2 : Hid (2 ≤ w.heap.size) := h2
  have HL : Hid (liveB m x = r) := hr
  clear h ho h2 hr
  have hp4 := HO.out.p1
  have hml := HO.out.fit.len
  go_enter Tryz.func35, Tryz.ntmps35
  go_wp2_with fail
  refine (mfind_any M rb P W m x w HR.out HO.out H2.out hx).mono ?_
  rintro e w1 ⟨k', j', rfl, hF, b1⟩
  have B1 : Hid (Below w.heap.size w w1) := b1
  rcases hF with ⟨k, j, rfl, rfl, hk, hj, hxe⟩ | ⟨rfl, rfl, hno⟩
  · have E : Hid (r = decide (m[k].st[j] = 1)) := by show _ = _; rw [← HL.out]; exact find_live HO.out.fit k j hk hj hxe
    obtain ⟨cap, g, q, sp⟩ := (HR.out.same (Ext.refl _ _) H2.out (fun k o ho _ => by rw [b1.block k (hlt ho)]; exact ho)).spot HO.out.fit k j hk hj
    obtain ⟨y, hy⟩ : ∃ y, m[k].st[j] = y := ⟨_, rfl⟩
    obtain ⟨L, hL⟩ : ∃ L, m[k].st.length = L := ⟨_, rfl⟩
    obtain ⟨n, hn⟩ : ∃ n, m.length = n := ⟨_, rfl⟩
    rw [hy, hL, hn] at sp
    rw [hy] at E
    have s1 := sp.b2
    have s2 := sp.c3
    have s3 := sp.cx
    have kn : (k : Int) < (n : Int) := by have := sp.kn; omega
    have jL : (j : Int) < (L : Int) := by have := sp.jL; omega
    have k0 : (0 : Int) ≤ (k : Int) := by omega
    have EB : Hid (((y : Int) == 1) = r) := by
      show _ = _
      rw [E.out]
      by_cases h1 : y = 1
      · subst h1; rfl
      · rw [decide_eq_false h1, beq_eq_false_iff_ne]; omega
    rw [hn] at hml
    have hnb : n ≤ 4096 := by omega
    have hLb := sp.L16
    clear sp hxe hy hL hn b1 E
    go_wp2
    go_ret
    exact ⟨ret_bool EB.out, B1.out⟩
  · have E : Hid (r = false) := by show _ = _; rw [← HL.out]; exact find_dead HO.out.fit hno
    clear hno b1
    go_wp2
    go_ret
    exact ⟨ret_bool E.out.symm, B1.out⟩
end Go.Proofs.YtgmljgogmbaioaaGreatDoor

/- The document's cache: what Take answers and does. -/
namespace Go.Proofs.YtgmljgogmbaioaaGreatDoor
open Go.RowKit
set_option linter.unusedVariables false
set_option maxRecDepth 4000

theorem LeftR.refl {M : Nat → Nat} {w : World} {rb P W : Nat} {m : List Sg} (h : Rf w M rb P W m) : LeftR M w rb P W m w := ⟨M, h, Mv.refl _ _⟩
theorem LeftR.trans {M M1 : Nat → Nat} {w w1 w' : World} {rb P W : Nat} {m : List Sg} (k : Mv M w M1 w1) (h : LeftR M1 w1 rb P W m w') : LeftR M w rb P W m w' := by
  obtain ⟨M', h1, h2⟩ := h; exact ⟨M', h1, k.trans h2⟩
theorem Rf.below {w w' : World} {M : Nat → Nat} {rb P W : Nat} {m : List Sg} (h : Rf w M rb P W m) (h2 : 2 ≤ w.heap.size) (hb : Below w.heap.size w w') : Rf w' M rb P W m := h.same (Ext.refl _ _) h2 (fun k o ho _ => by rw [hb.block k (hlt ho)]; exact ho)
theorem Okc.fit' {P W : Nat} {m m' : List Sg} (h : Okc P W m) (hf : Fit W P 0 m') : Okc P W m' := ⟨h.p0, h.p1, h.w0, h.w1, hf⟩
theorem Mv.tu' {M : Nat → Nat} {w w' : World} (h : Tu (fun k => M k ≠ 0) w w') : Mv M w M w' := ⟨Ext.refl _ _, h⟩
theorem Mv.two {M M' : Nat → Nat} {w w' : World} (h : Mv M w M' w') (h2 : 2 ≤ w.heap.size) : 2 ≤ w'.heap.size := Nat.le_trans h2 h.tu.size
/-- The slot that is found at the place of a slot. -/
theorem FindR.spot {W P : Nat} {m : List Sg} (hf : Fit W P 0 m) {a : Nat} {r s : Int} (h : FindR m (a : Int) r s) (hin : ∃ z c x, In m a z c x) : ∃ k j : Nat, r = (k : Int) ∧ s = (j : Int) ∧ ∃ hk : k < m.length, j < m[k].st.length ∧ a = m[k].at j := by
  rcases h with ⟨k, j, e1, e2, hk, hj, e3⟩ | ⟨_, _, hno⟩
  · exact ⟨k, j, e1, e2, hk, hj, by omega⟩
  · obtain ⟨z, c, x, t, ht, i, h1, h2, _⟩ := hin
    obtain ⟨k, hk, rfl⟩ := List.getElem_of_mem ht
    exact absurd (by rw [h2]) (hno k hk i (List.getElem?_eq_some_iff.1 h1).1)

set_option maxRecDepth 20000 in
set_option maxHeartbeats 4000000 in
theorem mtake_large (M : Nat → Nat) (rb P W : Nat) (m : List Sg) (v n : Int) (w : World) (h : Rf w M rb P W m) (ho : Okc P W m) (h2 : 2 ≤ w.heap.size) (hv : 0 ≤ v ∧ v < (W : Int)) (h7 : ofI n = 7) (A B : Nat) (m' : List Sg) (hT : takeM P W v n m = (A, B, m')) :
    Calls Tryz.prog 33 #[.pointer (some ⟨rb, 0, none⟩), .int .i64 v, .int .i64 n] w fun e w' => e = .returned (.tuple #[.int .i64 (A : Nat), .int .i64 (B : Nat)]) ∧ LeftR M w rb P W m' w' := by
  obtain ⟨hn1, hn2, hn3⟩ := pagesN_large h7
  obtain ⟨b, rfl⟩ : ∃ b : Nat, n = b := ⟨n.toNat, by omega⟩
  have HR : Hid (Rf w M rb P W m) := h
  have HO : Hid (Okc P W m) := ho
  have H2 : Hid (2 ≤ w.heap.size) := h2
  have H7 : Hid (ofI (b : Int) = 7) := h7
  have TE : takeM P W v (b : Int) m = match layP P (pgsN 7 (b : Int)) 0 m with
    | none => (0, 13, m)
    | some p => (256 * p, 0, ins (fresh p 7 b 1) m) := by
    unfold takeM
    rw [if_neg (by rw [h7]; omega), if_pos h7]
    rfl
  rw [TE] at hT
  have hW : (W : Int) ≤ 8 := by have := ho.w1; omega
  have hP := ho.p1
  have v0 : ¬ (v < 0) := by omega
  have v1 : ¬ ((W : Int) ≤ v) := by omega
  obtain ⟨a, cap, gs, hRm⟩ := h
  have b1 := hRm.box1
  clear hRm ho h2 h7 TE hn1
  cases hlay : layP P (pgsN 7 (b : Int)) 0 m with
  | none =>
    rw [hlay] at hT
    cases hT
    go_enter Tryz.func33, Tryz.ntmps33
    go_wp2_with (go_at_call 27; refine (qof_any (b : Int) _).mono ?_; rw [H7.out]; rintro e w' ⟨rfl, rfl⟩)
    refine (mlay_any M rb P W m 7 b w HR.out HO.out H2.out (by omega) (by omega) (fun _ => H7.out)).mono ?_
    rintro e w1 ⟨r, rfl, hl⟩
    rcases hl with ⟨hl, rfl, l1⟩ | ⟨p, i, hl, _⟩
    · have L1 : Hid (LeftR M w rb P W m w1) := l1
      clear l1 hl
      go_wp2
      go_ret2
      exact ⟨rfl, L1.out⟩
    · rw [show ((7 : Nat) : Int) = 7 from rfl, hlay] at hl
      cases hl
  | some p =>
    rw [hlay] at hT
    cases hT
    go_enter Tryz.func33, Tryz.ntmps33
    go_wp2_with (go_at_call 27; refine (qof_any (b : Int) _).mono ?_; rw [H7.out]; rintro e w' ⟨rfl, rfl⟩)
    refine (mlay_any M rb P W m 7 b w HR.out HO.out H2.out (by omega) (by omega) (fun _ => H7.out)).mono ?_
    rintro e w1 ⟨r, rfl, hl⟩
    rcases hl with ⟨hl, rfl, l1⟩ | ⟨p', i, hl, hi, hins, rfl, l1⟩
    · rw [show ((7 : Nat) : Int) = 7 from rfl, hlay] at hl
      cases hl
    rw [show ((7 : Nat) : Int) = 7 from rfl, hlay] at hl
    cases hl
    obtain ⟨M1, R1, m1⟩ := l1
    have OKt : (fresh p 7 b 0).Ok W := fresh_ok (by omega) (by omega) (fun _ => H7.out) (by omega) (by omega)
    have FT : Fit W P 0 (ins (fresh p 7 b 0) m) := Fit.lay OKt HO.out.fit hlay
    have e0 : ins (fresh p 7 b 0) m = m.take i ++ fresh p 7 b 0 :: m.drop i := hins _ rfl
    have hil : i < (ins (fresh p 7 b 0) m).length := by rw [e0]; simp; omega
    have htl : (m.take i).length = i := by rw [List.length_take]; omega
    have eg : (ins (fresh p 7 b 0) m)[i] = fresh p 7 b 0 := by
      simp only [e0]
      rw [List.getElem_append_right (by omega)]
      simp [htl]
    have hjl : 0 < (ins (fresh p 7 b 0) m)[i].st.length := by rw [eg]; exact OKt.facts.1
    obtain ⟨cap1, g, q, sp⟩ := R1.spot FT i 0 hil hjl
    have hst : setM ((ins (fresh p 7 b 0) m)[i].at 0) 1 (ins (fresh p 7 b 0) m) = ins (fresh p 7 b 1) m := by
      rw [set_at FT i 0 1 hil hjl, eg, hins (fresh p 7 b 1) rfl]
      simp only [e0]
      rw [List.set_append_right _ _ (by omega)]
      simp [htl]
      rfl
    have SET := sp.set 1
    rw [hst] at SET
    have FIN : Hid (LeftR M w rb P W (ins (fresh p 7 b 1) m) (w1.setCell ⟨q, 0, none⟩ (.int .i64 1))) := LeftR.trans m1 ⟨M1, SET.1, Mv.tu' SET.2⟩
    have on : Only q w1 (w1.setCell ⟨q, 0, none⟩ (.int .i64 1)) := Only.set q 0 _ w1
    have s1 := sp.b2
    have s0 := sp.c0
    have s2 := sp.c3
    have s3 := sp.cx
    have s4 := sp.fz
    have kn := sp.kn
    have L16 := sp.L16
    have jl := sp.jL
    rw [eg] at s0 s2 L16 jl
    have hpg : (fresh p 7 b 0).pg = p := rfl
    rw [hpg] at s0
    obtain ⟨y, hy⟩ : ∃ y, (ins (fresh p 7 b 0) m)[i].st[0] = y := ⟨_, rfl⟩
    rw [hy] at s3
    have u1 := (on.cell (p := ⟨rb, 2, none⟩) sp.qr).trans s1
    have u0 := (on.cell (p := ⟨g, i * 4, none⟩) sp.qg).trans s0
    have hpb : p ≤ 4096 := by have := (FT.ok _ (List.getElem_mem hil)).2.2; rw [eg, hpg] at this; omega
    obtain ⟨N, hN⟩ : ∃ N, (ins (fresh p 7 b 0) m).length = N := ⟨_, rfl⟩
    obtain ⟨L, hL⟩ : ∃ L, (fresh p 7 b 0).st.length = L := ⟨_, rfl⟩
    rw [hN] at s1 kn u1
    rw [hL] at s2 L16 jl
    have i0 : (i : Int) < (N : Int) := by omega
    have i1 : (0 : Int) < (L : Int) := by omega
    have iN : ¬ ((i : Int) < 0) := by omega
    clear sp SET on hst eg hy hjl e0 hins R1 m1 hil htl hN hL hpg FT OKt
    go_wp2
    go_ret2
    exact ⟨rfl, FIN.out⟩
theorem OwnsI.at {w : World} {B : Nat} {a : Option Addr} {l : List Int} {c : Nat} (h : OwnsI w B a l c) (i : Nat) (hi : i < l.length) : ∃ g, a = some ⟨g, 0, none⟩ ∧ w.cell? ⟨g, i, none⟩ = some (.int .i64 l[i]) := by
  have h' := h
  obtain ⟨_, ⟨h1, h2⟩ | ⟨q, c', cur, h1, hg1, h2, _⟩⟩ := h
  · omega
  · cases h1
    refine ⟨q, rfl, ?_⟩
    rw [World.ownsRow.cellAt h' i (by omega)]
    simp [hi]
theorem keptI_of {W : Nat} {m : List Sg} {u c : Nat} (hu : u < W) (hc : c < 7) : keptI W (u : Int) (c : Int) m = (keptM u c m).map Int.ofNat := by
  unfold keptI
  rw [if_pos (by omega), Int.toNat_natCast, Int.toNat_natCast]
theorem takeM_small {P W u c : Nat} {n : Int} {m : List Sg} (hu : u < W) (hc : c < 7) (hn : ofI n = (c : Int)) : takeM P W (u : Int) n m = match fillM P u c m with
    | none => (0, 13, m)
    | some m2 => ((keptM u c m2).headD 0, 0, setM ((keptM u c m2).headD 0) 1 m2) := by
  unfold takeM
  rw [if_neg (by rw [hn]; omega), if_neg (by rw [hn]; omega), hn, Int.toNat_natCast, Int.toNat_natCast]
  cases fillM P u c m <;> rfl
set_option maxRecDepth 20000 in
set_option maxHeartbeats 4000000 in
theorem mtake_kept (M : Nat → Nat) (rb P W : Nat) (m : List Sg) (u c : Nat) (n : Int) (w : World) (h : Rf w M rb P W m) (ho : Okc P W m) (h2 : 2 ≤ w.heap.size) (hu : u < W) (hc : c < 7) (hn : ofI n = (c : Int)) (at' : Nat) (rest : List Nat) (hk : keptM u c m = at' :: rest) :
    Calls Tryz.prog 33 #[.pointer (some ⟨rb, 0, none⟩), .int .i64 (u : Nat), .int .i64 n] w fun e w' => e = .returned (.tuple #[.int .i64 (at' : Nat), .int .i64 (0 : Nat)]) ∧ LeftR M w rb P W (setM at' 1 m) w' := by
  have HR : Hid (Rf w M rb P W m) := h
  have HO : Hid (Okc P W m) := ho
  have H2 : Hid (2 ≤ w.heap.size) := h2
  have HOF : Hid (ofI n = (c : Int)) := hn
  have HU : Hid (u < W) := hu
  have HC : Hid (c < 7) := hc
  have hW : (W : Int) ≤ 8 := by have := ho.w1; omega
  have hP := ho.p1
  have v0 : ¬ ((u : Int) < 0) := by omega
  have v1 : ¬ ((W : Int) ≤ (u : Int)) := by omega
  have v2 : ¬ ((c : Int) < 0) := by omega
  have v3 : ((c : Int) == 7) = false := by rw [beq_eq_false_iff_ne]; omega
  obtain ⟨a, cap, gs, hRm⟩ := h
  have b1 := hRm.box1
  have AB : Hid (at' ≤ 1048576) := by
    obtain ⟨z, hz⟩ := mem_keptM.1 (show at' ∈ keptM u c m by rw [hk]; exact List.mem_cons_self)
    have := (hz.bound ho.fit).2.1
    show _ ≤ _; omega
  have IN : Hid (∃ z c' x, In m at' z c' x) := by
    obtain ⟨z, hz⟩ := mem_keptM.1 (show at' ∈ keptM u c m by rw [hk]; exact List.mem_cons_self)
    exact ⟨z, c, _, hz⟩
  have KE : Hid (keptM u c m = at' :: rest) := hk
  clear hRm ho h2 hn hk
  go_enter Tryz.func33, Tryz.ntmps33
  go_wp2_with (go_at_call 27; refine (qof_any n _).mono ?_; rw [HOF.out]; rintro e w' ⟨rfl, rfl⟩)
  refine (mkept_any M rb P W m (u : Int) (c : Int) _ HR.out HO.out H2.out _ (keptI_of HU.out HC.out)).mono ?_
  rw [KE.out]
  rintro e w3 ⟨ka3, kc3, rfl, _, b3⟩
  have R3 : Hid (Rf w3 M rb P W m) := Rf.below HR.out H2.out b3
  have T3 : Hid (2 ≤ w3.heap.size) := Nat.le_trans H2.out b3.size
  have M3 : Hid (Mv M w M w3) := Mv.below (Ext.refl _ _) b3
  have kl3 : ((at' :: rest).map Int.ofNat).length = rest.length + 1 := by simp
  rw [kl3]
  have k3 : ((((rest.length + 1 : Nat) : Nat) : Int) == 0) = false := by rw [beq_eq_false_iff_ne]; omega
  clear b3 kl3
  go_wp2_with fail
  refine (mkept_any M rb P W m (u : Int) (c : Int) _ R3.out HO.out T3.out _ (keptI_of HU.out HC.out)).mono ?_
  rw [KE.out]
  rintro e w8 ⟨ka, kc, rfl, ko, b8⟩
  obtain ⟨kg, rfl, kcell⟩ := ko.at 0 (by simp)
  simp only [List.map_cons, List.getElem_cons_zero] at kcell
  have R8 : Hid (Rf w8 M rb P W m) := Rf.below R3.out T3.out b8
  have T8 : Hid (2 ≤ w8.heap.size) := Nat.le_trans T3.out b8.size
  have M8 : Hid (Mv M w M w8) := (M3.out).trans (Mv.below (Ext.refl _ _) b8)
  have kl : ((at' :: rest).map Int.ofNat).length = rest.length + 1 := by simp
  rw [kl]
  have k0 : (0 : Int) < (((rest.length + 1 : Nat) : Nat) : Int) := by omega
  have kcell' : w8.cell? ⟨kg, 0, none⟩ = some (.int .i64 (at' : Nat)) := kcell
  clear ko b8 kl kcell
  go_wp2_with fail
  refine (mfind_any M rb P W m (at' : Int) _ R8.out HO.out T8.out (by have := AB.out; omega)).mono ?_
  rintro e w9 ⟨fr, fs, rfl, hF, b9⟩
  obtain ⟨k, j, rfl, rfl, hk, hj, hat⟩ := hF.spot (HO.out).fit IN.out
  obtain ⟨cap9, g, q, sp⟩ := (R8.out.below T8.out b9).spot (HO.out).fit k j hk hj
  have SET := sp.set 1
  rw [← hat] at SET
  have FIN : Hid (LeftR M w rb P W (setM at' 1 m) (w9.setCell ⟨q, j, none⟩ (.int .i64 1))) := LeftR.trans (M8.out.trans (Mv.below (Ext.refl _ _) b9)) ⟨M, SET.1, Mv.tu' SET.2⟩
  have s1 := sp.b2
  have s2 := sp.c3
  have s3 := sp.cx
  have s4 := sp.fz
  have kn := sp.kn
  have L16 := sp.L16
  have jl := sp.jL
  obtain ⟨y, hy⟩ : ∃ y, m[k].st[j] = y := ⟨_, rfl⟩
  rw [hy] at s3
  obtain ⟨L, hL⟩ : ∃ L, m[k].st.length = L := ⟨_, rfl⟩
  obtain ⟨N, hN⟩ : ∃ N, (m).length = N := ⟨_, rfl⟩
  rw [hL] at s2 L16 jl
  rw [hN] at s1 kn
  have i0 : (k : Int) < (N : Int) := by omega
  have i1 : (j : Int) < (L : Int) := by omega
  have hab := AB.out
  clear sp SET hat hy hL hN b9 hF
  go_wp2
  go_ret2
  exact ⟨rfl, FIN.out⟩
set_option maxRecDepth 20000 in
set_option maxHeartbeats 4000000 in
theorem mtake_some (M : Nat → Nat) (rb P W : Nat) (m : List Sg) (u c : Nat) (n : Int) (w : World) (h : Rf w M rb P W m) (ho : Okc P W m) (h2 : 2 ≤ w.heap.size) (hu : u < W) (hc : c < 7) (hn : ofI n = (c : Int)) (at' : Nat) (rest : List Nat) (hk0 : keptM u c m = []) (hfr : freeP c m ≠ []) (hk : keptM u c (someM u c m) = at' :: rest) :
    Calls Tryz.prog 33 #[.pointer (some ⟨rb, 0, none⟩), .int .i64 (u : Nat), .int .i64 n] w fun e w' => e = .returned (.tuple #[.int .i64 (at' : Nat), .int .i64 (0 : Nat)]) ∧ LeftR M w rb P W (setM at' 1 (someM u c m)) w' := by
  have HR : Hid (Rf w M rb P W m) := h
  have HO : Hid (Okc P W m) := ho
  have H2 : Hid (2 ≤ w.heap.size) := h2
  have HOF : Hid (ofI n = (c : Int)) := hn
  have HU : Hid (u < W) := hu
  have HC : Hid (c < 7) := hc
  have hW : (W : Int) ≤ 8 := by have := ho.w1; omega
  have hP := ho.p1
  have v0 : ¬ ((u : Int) < 0) := by omega
  have v1 : ¬ ((W : Int) ≤ (u : Int)) := by omega
  have v2 : ¬ ((c : Int) < 0) := by omega
  have v3 : ((c : Int) == 7) = false := by rw [beq_eq_false_iff_ne]; omega
  obtain ⟨a, cap, gs, hRm⟩ := h
  have b1 := hRm.box1
  have AB : Hid (at' ≤ 1048576) := by
    obtain ⟨z, hz⟩ := mem_keptM.1 (show at' ∈ keptM u c (someM u c m) by rw [hk]; exact List.mem_cons_self)
    have := (hz.bound (ho.fit.someM u c hu hc)).2.1
    show _ ≤ _; omega
  have IN : Hid (∃ z c' x, In (someM u c m) at' z c' x) := by
    obtain ⟨z, hz⟩ := mem_keptM.1 (show at' ∈ keptM u c (someM u c m) by rw [hk]; exact List.mem_cons_self)
    exact ⟨z, c, _, hz⟩
  have KE : Hid (keptM u c (someM u c m) = at' :: rest) := hk
  have KN : Hid (keptM u c m = []) := hk0
  obtain ⟨N4, hN4⟩ : ∃ N4, 4 - (4 - (freeP c m).length) = N4 := ⟨_, rfl⟩
  have HN4 : Hid (4 - (4 - (freeP c m).length) = N4) := hN4
  have hN40 : N4 ≠ 0 := by
    have : (freeP c m).length ≠ 0 := fun e => hfr (List.eq_nil_of_length_eq_zero e)
    omega
  have OK4 : Hid (Okc P W (someM u c m)) := ho.fit' (ho.fit.someM u c hu hc)
  clear hRm ho h2 hn hk hk0 hfr hN4
  go_enter Tryz.func33, Tryz.ntmps33
  go_wp2_with (go_at_call 27; refine (qof_any n _).mono ?_; rw [HOF.out]; rintro e w' ⟨rfl, rfl⟩)
  refine (mkept_any M rb P W m (u : Int) (c : Int) _ HR.out HO.out H2.out _ (keptI_of HU.out HC.out)).mono ?_
  rw [KN.out]
  rintro e w3 ⟨ka3, kc3, rfl, _, b3⟩
  have R3 : Hid (Rf w3 M rb P W m) := Rf.below HR.out H2.out b3
  have T3 : Hid (2 ≤ w3.heap.size) := Nat.le_trans H2.out b3.size
  have M3 : Hid (Mv M w M w3) := Mv.below (Ext.refl _ _) b3
  have k3 : (((([] : List Nat).map Int.ofNat).length : Int) == 0) = true := rfl
  simp only [List.map_nil, List.length_nil]
  clear b3 k3
  go_wp2_with fail
  refine (msome_any M rb P W m u c _ R3.out HO.out T3.out HU.out N4 HN4.out).mono ?_
  rintro e w4 ⟨rfl, M4, R4', m4'⟩
  have R4 : Hid (Rf w4 M4 rb P W (someM u c m)) := R4'
  have M5 : Hid (Mv M w M4 w4) := M3.out.trans m4'
  have T4 : Hid (2 ≤ w4.heap.size) := Nat.le_trans T3.out m4'.tu.size
  have k4 : ((N4 : Int) == 0) = false := by rw [beq_eq_false_iff_ne]; omega
  clear R4' m4'
  go_wp2_with fail
  refine (mkept_any M4 rb P W (someM u c m) (u : Int) (c : Int) _ R4.out OK4.out T4.out _ (keptI_of HU.out HC.out)).mono ?_
  rw [KE.out]
  rintro e w8 ⟨ka, kc, rfl, ko, b8⟩
  obtain ⟨kg, rfl, kcell⟩ := ko.at 0 (by simp)
  simp only [List.map_cons, List.getElem_cons_zero] at kcell
  have R8 : Hid (Rf w8 M4 rb P W (someM u c m)) := Rf.below R4.out T4.out b8
  have T8 : Hid (2 ≤ w8.heap.size) := Nat.le_trans T4.out b8.size
  have M8 : Hid (Mv M w M4 w8) := (M5.out).trans (Mv.below (Ext.refl _ _) b8)
  have kl : ((at' :: rest).map Int.ofNat).length = rest.length + 1 := by simp
  rw [kl]
  have k0 : (0 : Int) < (((rest.length + 1 : Nat) : Nat) : Int) := by omega
  have kcell' : w8.cell? ⟨kg, 0, none⟩ = some (.int .i64 (at' : Nat)) := kcell
  clear ko b8 kl kcell
  go_wp2_with fail
  refine (mfind_any M4 rb P W (someM u c m) (at' : Int) _ R8.out OK4.out T8.out (by have := AB.out; omega)).mono ?_
  rintro e w9 ⟨fr, fs, rfl, hF, b9⟩
  obtain ⟨k, j, rfl, rfl, hk, hj, hat⟩ := hF.spot (OK4.out).fit IN.out
  obtain ⟨cap9, g, q, sp⟩ := (R8.out.below T8.out b9).spot (OK4.out).fit k j hk hj
  have SET := sp.set 1
  rw [← hat] at SET
  have FIN : Hid (LeftR M w rb P W (setM at' 1 (someM u c m)) (w9.setCell ⟨q, j, none⟩ (.int .i64 1))) := LeftR.trans (M8.out.trans (Mv.below (Ext.refl _ _) b9)) ⟨M4, SET.1, Mv.tu' SET.2⟩
  have s1 := sp.b2
  have s2 := sp.c3
  have s3 := sp.cx
  have s4 := sp.fz
  have kn := sp.kn
  have L16 := sp.L16
  have jl := sp.jL
  obtain ⟨y, hy⟩ : ∃ y, (someM u c m)[k].st[j] = y := ⟨_, rfl⟩
  rw [hy] at s3
  obtain ⟨L, hL⟩ : ∃ L, (someM u c m)[k].st.length = L := ⟨_, rfl⟩
  obtain ⟨N, hN⟩ : ∃ N, ((someM u c m)).length = N := ⟨_, rfl⟩
  rw [hL] at s2 L16 jl
  rw [hN] at s1 kn
  have i0 : (k : Int) < (N : Int) := by omega
  have i1 : (j : Int) < (L : Int) := by omega
  have hab := AB.out
  clear sp SET hat hy hL hN b9 hF
  go_wp2
  go_ret2
  exact ⟨rfl, FIN.out⟩
set_option maxRecDepth 20000 in
set_option maxHeartbeats 4000000 in
theorem mtake_none (M : Nat → Nat) (rb P W : Nat) (m : List Sg) (u c : Nat) (n : Int) (w : World) (h : Rf w M rb P W m) (ho : Okc P W m) (h2 : 2 ≤ w.heap.size) (hu : u < W) (hc : c < 7) (hn : ofI n = (c : Int)) (hk0 : keptM u c m = []) (hfr : freeP c m = []) (hl : layP P 1 0 m = none) :
    Calls Tryz.prog 33 #[.pointer (some ⟨rb, 0, none⟩), .int .i64 (u : Nat), .int .i64 n] w fun e w' => e = .returned (.tuple #[.int .i64 (0 : Nat), .int .i64 (13 : Nat)]) ∧ LeftR M w rb P W (m) w' := by
  have HR : Hid (Rf w M rb P W m) := h
  have HO : Hid (Okc P W m) := ho
  have H2 : Hid (2 ≤ w.heap.size) := h2
  have HOF : Hid (ofI n = (c : Int)) := hn
  have HU : Hid (u < W) := hu
  have HC : Hid (c < 7) := hc
  have hW : (W : Int) ≤ 8 := by have := ho.w1; omega
  have hP := ho.p1
  have v0 : ¬ ((u : Int) < 0) := by omega
  have v1 : ¬ ((W : Int) ≤ (u : Int)) := by omega
  have v2 : ¬ ((c : Int) < 0) := by omega
  have v3 : ((c : Int) == 7) = false := by rw [beq_eq_false_iff_ne]; omega
  obtain ⟨a, cap, gs, hRm⟩ := h
  have b1 := hRm.box1
  have KN : Hid (keptM u c m = []) := hk0
  have N4E : (4 - (4 - (freeP c m).length)) = 0 := by rw [hfr]; rfl
  obtain ⟨N4, hN4⟩ : ∃ N4 : Nat, N4 = 0 := ⟨_, rfl⟩
  have HN4 : Hid (4 - (4 - (freeP c m).length) = N4) := N4E.trans hN4.symm
  have SN : Hid (someM u c m = m) := some_none ho.fit hfr
  have PG1 : pgsN (c : Int) ((0 : Nat) : Int) = 1 := by unfold pgsN; rw [if_neg (by omega)]
  have HL : Hid (layP P (pgsN (c : Int) ((0 : Nat) : Int)) 0 m = none) := by show _ = _; rw [PG1]; exact hl
  clear hRm ho h2 hn hk0 hfr hl N4E PG1
  go_enter Tryz.func33, Tryz.ntmps33
  go_wp2_with (go_at_call 27; refine (qof_any n _).mono ?_; rw [HOF.out]; rintro e w' ⟨rfl, rfl⟩)
  refine (mkept_any M rb P W m (u : Int) (c : Int) _ HR.out HO.out H2.out _ (keptI_of HU.out HC.out)).mono ?_
  rw [KN.out]
  rintro e w3 ⟨ka3, kc3, rfl, _, b3⟩
  have R3 : Hid (Rf w3 M rb P W m) := Rf.below HR.out H2.out b3
  have T3 : Hid (2 ≤ w3.heap.size) := Nat.le_trans H2.out b3.size
  have M3 : Hid (Mv M w M w3) := Mv.below (Ext.refl _ _) b3
  have k3 : (((([] : List Nat).map Int.ofNat).length : Int) == 0) = true := rfl
  simp only [List.map_nil, List.length_nil]
  clear b3 k3
  go_wp2_with fail
  refine (msome_any M rb P W m u c _ R3.out HO.out T3.out HU.out N4 HN4.out).mono ?_
  rintro e w4 ⟨rfl, M4, R4', m4'⟩
  rw [SN.out] at R4'
  have R4 : Hid (Rf w4 M4 rb P W m) := R4'
  have M5 : Hid (Mv M w M4 w4) := M3.out.trans m4'
  have T4 : Hid (2 ≤ w4.heap.size) := Nat.le_trans T3.out m4'.tu.size
  subst hN4
  clear R4' m4'
  go_wp2_with fail
  refine (mlay_any M4 rb P W m c 0 _ R4.out HO.out T4.out (by have := HC.out; omega) (fun _ => rfl) (fun e => by have := HC.out; omega)).mono ?_
  rintro e w5 ⟨r, rfl, hl⟩
  rcases hl with ⟨hl, rfl, l1⟩ | ⟨p', i, hl, _⟩
  · have L1 : Hid (LeftR M w rb P W m w5) := LeftR.trans M5.out l1
    clear l1 hl
    go_wp2
    go_ret2
    exact ⟨rfl, L1.out⟩
  · have := HL.out
    rw [hl] at this
    cases this
set_option maxRecDepth 20000 in
set_option maxHeartbeats 4000000 in
theorem mtake_page (M : Nat → Nat) (rb P W : Nat) (m : List Sg) (u c : Nat) (n : Int) (w : World) (h : Rf w M rb P W m) (ho : Okc P W m) (h2 : 2 ≤ w.heap.size) (hu : u < W) (hc : c < 7) (hn : ofI n = (c : Int)) (p : Nat) (at' : Nat) (rest : List Nat) (hk0 : keptM u c m = []) (hfr : freeP c m = []) (hl : layP P 1 0 m = some p) (hf : Fit W P 0 (ins (fresh p c 0 0) m)) (hk : keptM u c (someM u c (ins (fresh p c 0 0) m)) = at' :: rest) :
    Calls Tryz.prog 33 #[.pointer (some ⟨rb, 0, none⟩), .int .i64 (u : Nat), .int .i64 n] w fun e w' => e = .returned (.tuple #[.int .i64 (at' : Nat), .int .i64 (0 : Nat)]) ∧ LeftR M w rb P W (setM at' 1 (someM u c (ins (fresh p c 0 0) m))) w' := by
  have HR : Hid (Rf w M rb P W m) := h
  have HO : Hid (Okc P W m) := ho
  have H2 : Hid (2 ≤ w.heap.size) := h2
  have HOF : Hid (ofI n = (c : Int)) := hn
  have HU : Hid (u < W) := hu
  have HC : Hid (c < 7) := hc
  have hW : (W : Int) ≤ 8 := by have := ho.w1; omega
  have hP := ho.p1
  have v0 : ¬ ((u : Int) < 0) := by omega
  have v1 : ¬ ((W : Int) ≤ (u : Int)) := by omega
  have v2 : ¬ ((c : Int) < 0) := by omega
  have v3 : ((c : Int) == 7) = false := by rw [beq_eq_false_iff_ne]; omega
  obtain ⟨a, cap, gs, hRm⟩ := h
  have b1 := hRm.box1
  have AB : Hid (at' ≤ 1048576) := by
    obtain ⟨z, hz⟩ := mem_keptM.1 (show at' ∈ keptM u c (someM u c (ins (fresh p c 0 0) m)) by rw [hk]; exact List.mem_cons_self)
    have := (hz.bound (hf.someM u c hu hc)).2.1
    show _ ≤ _; omega
  have IN : Hid (∃ z c' x, In (someM u c (ins (fresh p c 0 0) m)) at' z c' x) := by
    obtain ⟨z, hz⟩ := mem_keptM.1 (show at' ∈ keptM u c (someM u c (ins (fresh p c 0 0) m)) by rw [hk]; exact List.mem_cons_self)
    exact ⟨z, c, _, hz⟩
  have KE : Hid (keptM u c (someM u c (ins (fresh p c 0 0) m)) = at' :: rest) := hk
  have KN : Hid (keptM u c m = []) := hk0
  have N4E : (4 - (4 - (freeP c m).length)) = 0 := by rw [hfr]; rfl
  obtain ⟨N4, hN4⟩ : ∃ N4 : Nat, N4 = 0 := ⟨_, rfl⟩
  have HN4 : Hid (4 - (4 - (freeP c m).length) = N4) := N4E.trans hN4.symm
  have SN : Hid (someM u c m = m) := some_none ho.fit hfr
  have PG1 : pgsN (c : Int) ((0 : Nat) : Int) = 1 := by unfold pgsN; rw [if_neg (by omega)]
  have HL : Hid (layP P (pgsN (c : Int) ((0 : Nat) : Int)) 0 m = some p) := by show _ = _; rw [PG1]; exact hl
  have OK5 : Hid (Okc P W (ins (fresh p c 0 0) m)) := ho.fit' hf
  have OK6 : Hid (Okc P W (someM u c (ins (fresh p c 0 0) m))) := ho.fit' (hf.someM u c hu hc)
  obtain ⟨N6, hN6⟩ : ∃ N6, 4 - (4 - (freeP c (ins (fresh p c 0 0) m)).length) = N6 := ⟨_, rfl⟩
  have HN6 : Hid (4 - (4 - (freeP c (ins (fresh p c 0 0) m)).length) = N6) := hN6
  clear hRm ho h2 hn hk hk0 hfr hl N4E PG1 hN6 hf
  go_enter Tryz.func33, Tryz.ntmps33
  go_wp2_with (go_at_call 27; refine (qof_any n _).mono ?_; rw [HOF.out]; rintro e w' ⟨rfl, rfl⟩)
  refine (mkept_any M rb P W m (u : Int) (c : Int) _ HR.out HO.out H2.out _ (keptI_of HU.out HC.out)).mono ?_
  rw [KN.out]
  rintro e w3 ⟨ka3, kc3, rfl, _, b3⟩
  have R3 : Hid (Rf w3 M rb P W m) := Rf.below HR.out H2.out b3
  have T3 : Hid (2 ≤ w3.heap.size) := Nat.le_trans H2.out b3.size
  have M3 : Hid (Mv M w M w3) := Mv.below (Ext.refl _ _) b3
  have k3 : (((([] : List Nat).map Int.ofNat).length : Int) == 0) = true := rfl
  simp only [List.map_nil, List.length_nil]
  clear b3 k3
  go_wp2_with fail
  refine (msome_any M rb P W m u c _ R3.out HO.out T3.out HU.out N4 HN4.out).mono ?_
  rintro e w4 ⟨rfl, M4, R4', m4'⟩
  rw [SN.out] at R4'
  have R4 : Hid (Rf w4 M4 rb P W m) := R4'
  have M5 : Hid (Mv M w M4 w4) := M3.out.trans m4'
  have T4 : Hid (2 ≤ w4.heap.size) := Nat.le_trans T3.out m4'.tu.size
  subst hN4
  clear R4' m4'
  go_wp2_with fail
  refine (mlay_any M4 rb P W m c 0 _ R4.out HO.out T4.out (by have := HC.out; omega) (fun _ => rfl) (fun e => by have := HC.out; omega)).mono ?_
  rintro e w5 ⟨r, rfl, hl⟩
  rcases hl with ⟨hl, rfl, l1⟩ | ⟨p', i, hl, hi, _, rfl, l1⟩
  · have := HL.out
    rw [hl] at this
    cases this
  · obtain rfl : p = p' := by have := HL.out; rw [hl] at this; exact (Option.some.inj this).symm
    obtain ⟨M6, R6', m6'⟩ := l1
    have R6 : Hid (Rf w5 M6 rb P W (ins (fresh p c 0 0) m)) := R6'
    have M7 : Hid (Mv M w M6 w5) := M5.out.trans m6'
    have T6 : Hid (2 ≤ w5.heap.size) := Nat.le_trans T4.out m6'.tu.size
    have i0 : ¬ ((i : Int) < 0) := by omega
    clear R6' m6' hl
    go_wp2_with fail
    refine (msome_any M6 rb P W (ins (fresh p c 0 0) m) u c _ R6.out OK5.out T6.out HU.out N6 HN6.out).mono ?_
    rintro e w7 ⟨rfl, M7', R7', m7'⟩
    have R7 : Hid (Rf w7 M7' rb P W (someM u c (ins (fresh p c 0 0) m))) := R7'
    have MM7 : Hid (Mv M w M7' w7) := M7.out.trans m7'
    have T7 : Hid (2 ≤ w7.heap.size) := Nat.le_trans T6.out m7'.tu.size
    clear R7' m7'
    go_wp2_with fail
    refine (mkept_any M7' rb P W (someM u c (ins (fresh p c 0 0) m)) (u : Int) (c : Int) _ R7.out OK6.out T7.out _ (keptI_of HU.out HC.out)).mono ?_
    rw [KE.out]
    rintro e w8 ⟨ka, kc, rfl, ko, b8⟩
    obtain ⟨kg, rfl, kcell⟩ := ko.at 0 (by simp)
    simp only [List.map_cons, List.getElem_cons_zero] at kcell
    have R8 : Hid (Rf w8 M7' rb P W (someM u c (ins (fresh p c 0 0) m))) := Rf.below R7.out T7.out b8
    have T8 : Hid (2 ≤ w8.heap.size) := Nat.le_trans T7.out b8.size
    have M8 : Hid (Mv M w M7' w8) := (MM7.out).trans (Mv.below (Ext.refl _ _) b8)
    have kl : ((at' :: rest).map Int.ofNat).length = rest.length + 1 := by simp
    rw [kl]
    have k0 : (0 : Int) < (((rest.length + 1 : Nat) : Nat) : Int) := by omega
    have kcell' : w8.cell? ⟨kg, 0, none⟩ = some (.int .i64 (at' : Nat)) := kcell
    clear ko b8 kl kcell
    go_wp2_with fail
    refine (mfind_any M7' rb P W (someM u c (ins (fresh p c 0 0) m)) (at' : Int) _ R8.out OK6.out T8.out (by have := AB.out; omega)).mono ?_
    rintro e w9 ⟨fr, fs, rfl, hF, b9⟩
    obtain ⟨k, j, rfl, rfl, hk, hj, hat⟩ := hF.spot (OK6.out).fit IN.out
    obtain ⟨cap9, g, q, sp⟩ := (R8.out.below T8.out b9).spot (OK6.out).fit k j hk hj
    have SET := sp.set 1
    rw [← hat] at SET
    have FIN : Hid (LeftR M w rb P W (setM at' 1 (someM u c (ins (fresh p c 0 0) m))) (w9.setCell ⟨q, j, none⟩ (.int .i64 1))) := LeftR.trans (M8.out.trans (Mv.below (Ext.refl _ _) b9)) ⟨M7', SET.1, Mv.tu' SET.2⟩
    have s1 := sp.b2
    have s2 := sp.c3
    have s3 := sp.cx
    have s4 := sp.fz
    have kn := sp.kn
    have L16 := sp.L16
    have jl := sp.jL
    obtain ⟨y, hy⟩ : ∃ y, (someM u c (ins (fresh p c 0 0) m))[k].st[j] = y := ⟨_, rfl⟩
    rw [hy] at s3
    obtain ⟨L, hL⟩ : ∃ L, (someM u c (ins (fresh p c 0 0) m))[k].st.length = L := ⟨_, rfl⟩
    obtain ⟨N, hN⟩ : ∃ N, ((someM u c (ins (fresh p c 0 0) m))).length = N := ⟨_, rfl⟩
    rw [hL] at s2 L16 jl
    rw [hN] at s1 kn
    have i0 : (k : Int) < (N : Int) := by omega
    have i1 : (j : Int) < (L : Int) := by omega
    have hab := AB.out
    clear sp SET hat hy hL hN b9 hF
    go_wp2
    go_ret2
    exact ⟨rfl, FIN.out⟩
theorem head_cons {l : List Nat} (h : l ≠ []) : ∃ a r, l = a :: r ∧ l.headD 0 = a := by
  cases l with
  | nil => exact absurd rfl h
  | cons a r => exact ⟨a, r, rfl, rfl⟩
theorem mtake_any (M : Nat → Nat) (rb P W : Nat) (m : List Sg) (v n : Int) (w : World) (h : Rf w M rb P W m) (ho : Okc P W m) (h2 : 2 ≤ w.heap.size) :
    Calls Tryz.prog 33 #[.pointer (some ⟨rb, 0, none⟩), .int .i64 v, .int .i64 n] w fun e w' => e = .returned (.tuple #[.int .i64 ((takeM P W v n m).1 : Nat), .int .i64 ((takeM P W v n m).2.1 : Nat)]) ∧ LeftR M w rb P W (takeM P W v n m).2.2 w' := by
  by_cases hbad : ¬ (0 ≤ v ∧ v < (W : Int)) ∨ ofI n = -1
  · have TE : takeM P W v n m = (0, 2, m) := by unfold takeM; rw [if_pos hbad]
    rw [TE]
    have F : Hid (LeftR M w rb P W m w) := LeftR.refl h
    have hW : (W : Int) ≤ 8 := by have := ho.w1; omega
    obtain ⟨a, cap, gs, hRm⟩ := h
    have b1 := hRm.box1
    obtain ⟨c, hc⟩ : ∃ c, ofI n = c := ⟨_, rfl⟩
    have HC : Hid (ofI n = c) := hc
    have hcr := ofI_range n
    rw [hc] at hbad hcr
    clear hRm ho h2 hc TE
    rcases Int.lt_or_le v 0 with h0 | h0
    · clear hbad
      go_enter Tryz.func33, Tryz.ntmps33
      go_wp2_with (go_at_call 27; refine (qof_any n _).mono ?_; rw [HC.out]; rintro e w' ⟨rfl, rfl⟩)
      go_ret2
      exact ⟨rfl, F.out⟩
    · have n0 : ¬ (v < 0) := by omega
      rcases Int.lt_or_le v (W : Int) with h1 | h1
      · have n1 : ¬ ((W : Int) ≤ v) := by omega
        have c0 : c < 0 := by omega
        clear hbad
        go_enter Tryz.func33, Tryz.ntmps33
        go_wp2_with (go_at_call 27; refine (qof_any n _).mono ?_; rw [HC.out]; rintro e w' ⟨rfl, rfl⟩)
        go_ret2
        exact ⟨rfl, F.out⟩
      · clear hbad
        go_enter Tryz.func33, Tryz.ntmps33
        go_wp2_with (go_at_call 27; refine (qof_any n _).mono ?_; rw [HC.out]; rintro e w' ⟨rfl, rfl⟩)
        go_ret2
        exact ⟨rfl, F.out⟩
  · have hv : 0 ≤ v ∧ v < (W : Int) := Decidable.byContradiction (fun e => hbad (.inl e))
    by_cases h7 : ofI n = 7
    · exact mtake_large M rb P W m v n w h ho h2 hv h7 _ _ _ rfl
    · obtain ⟨u, rfl⟩ : ∃ u : Nat, v = u := ⟨v.toNat, by omega⟩
      have hr := ofI_range n
      obtain ⟨c, hc⟩ : ∃ c : Nat, ofI n = (c : Int) := ⟨(ofI n).toNat, by have : ofI n ≠ -1 := fun e => hbad (.inr e); omega⟩
      have hu : u < W := by omega
      have hc7 : c < 7 := by omega
      rw [takeM_small hu hc7 hc]
      cases hfm : fillM P u c m with
      | none =>
        unfold fillM at hfm
        split at hfm
        · cases hfm
        · rename_i hk
          split at hfm
          · cases hfm
          · rename_i hfr
            have hl : layP P 1 0 m = none := by
              cases e : layP P 1 0 m with
              | none => rfl
              | some p => rw [e] at hfm; cases hfm
            exact mtake_none M rb P W m u c n w h ho h2 hu hc7 hc (by simpa using hk) (by simpa using hfr) hl
      | some m2 =>
        have FO := fill_ok ho.fit hu hc7 hfm
        obtain ⟨at', rest, hk2, hhd⟩ := head_cons FO.kept
        simp only [hhd]
        unfold fillM at hfm
        split at hfm
        · cases hfm
          exact mtake_kept M rb P W m u c n w h ho h2 hu hc7 hc at' rest hk2
        · rename_i hk
          split at hfm
          · rename_i hfr
            cases hfm
            exact mtake_some M rb P W m u c n w h ho h2 hu hc7 hc at' rest (by simpa using hk) hfr hk2
          · rename_i hfr
            cases e : layP P 1 0 m with
            | none => rw [e] at hfm; cases hfm
            | some p =>
              rw [e] at hfm
              cases hfm
              have OKt : (fresh p c 0 0).Ok W := fresh_ok (by omega) (fun _ => rfl) (fun e => by omega) (by omega) (by omega)
              have hk1 : (fresh p c 0 0).k = 1 := by unfold Sg.k pgsN fresh; rw [if_neg (by show ¬ ((c : Int) = 7); omega)]
              exact mtake_page M rb P W m u c n w h ho h2 hu hc7 hc p at' rest (by simpa using hk) (by simpa using hfr) e (Fit.lay OKt ho.fit (by rw [hk1]; exact e)) hk2
end Go.Proofs.YtgmljgogmbaioaaGreatDoor

/- The document's cache: what Give answers and does. -/
namespace Go.Proofs.YtgmljgogmbaioaaGreatDoor
open Go.RowKit
set_option linter.unusedVariables false
set_option maxRecDepth 4000

theorem give_not {W : Nat} {v x : Int} {m : List Sg} (hv : 0 ≤ v ∧ v < (W : Int)) (h : liveB m x = false) : giveM W v x m = (10, m) := by
  unfold giveM
  rw [if_neg (by omega)]
  unfold liveB at h
  by_cases h0 : 0 ≤ x
  · rw [decide_eq_true h0, Bool.true_and] at h
    rw [if_pos h0]
    cases e : liveC x.toNat m with
    | none => rfl
    | some c => rw [e] at h; cases h
  · rw [if_neg h0]
theorem mgive_live {W P : Nat} {v x : Int} {m : List Sg} (hf : Fit W P 0 m) (hv : 0 ≤ v ∧ v < (W : Int)) (h : liveB m x = true) (k j : Nat) (hk : k < m.length) (hj : j < m[k].st.length) (hx : x = ((m[k].at j : Nat) : Int)) :
    m[k].st[j] = 1 ∧ giveM W v x m = if m[k].cl = 7 then (0, m.take k ++ m.drop (k + 1)) else (0, trimM v.toNat m[k].cl (setM (m[k].at j) (v.toNat + 2) m)) := by
  have h1 := find_live hf k j hk hj hx
  rw [h] at h1
  have hst : m[k].st[j] = 1 := of_decide_eq_true h1.symm
  refine ⟨hst, ?_⟩
  have hin : In m (m[k].at j) m[k].z m[k].cl 1 := ⟨m[k], List.getElem_mem hk, j, by rw [List.getElem?_eq_getElem hj, hst], rfl, rfl, rfl⟩
  have hxn : x.toNat = m[k].at j := by rw [hx]; exact Int.toNat_natCast _
  unfold liveB at h
  rw [Bool.and_eq_true] at h
  have h0 := of_decide_eq_true h.1
  obtain ⟨c, hc⟩ := Option.isSome_iff_exists.1 h.2
  obtain ⟨z, hz⟩ := liveC_in hc
  rw [hxn] at hz hc
  have hcl : c = m[k].cl := (In.one hf hz hin).2.1
  unfold giveM
  rw [if_neg (by omega), if_pos h0, hxn, hc]
  show (if c = 7 then (0, dropM (m[k].at j) m) else (0, trimM v.toNat c (setM (m[k].at j) (v.toNat + 2) m))) = _
  rw [hcl]
  by_cases h7 : m[k].cl = 7
  · rw [if_pos h7, if_pos h7]
    rw [h7] at hin
    obtain ⟨s, hs, k1, k2, k3, _⟩ := drop_one hf hin
    have hm : s = m[k] := by
      have ok := (hf.ok _ (List.getElem_mem hk)).1
      have hl1 : m[k].st.length = 1 := by rw [ok.len, h7]; rfl
      obtain rfl : j = 0 := by omega
      refine ((k3 m[k] (List.getElem_mem hk)).1 ?_).symm
      simp [h7]
    subst hm
    unfold dropM
    rw [filter_one _ hf hk k3]
  · rw [if_neg h7, if_neg h7]
/-- The walk's last part: so many slots set free. -/
theorem sets_step {T : List Nat} {m : List Sg} (j : Nat) (hj : j < T.length) : setM T[j] 0 (setsM (T.take j) 0 m) = setsM (T.take (j + 1)) 0 m := by
  rw [set_sets, List.take_succ_eq_append_getElem hj]
set_option maxRecDepth 20000 in
set_option maxHeartbeats 4000000 in
theorem mgive_small (M : Nat → Nat) (rb P W : Nat) (m : List Sg) (u : Nat) (x : Int) (w : World) (h : Rf w M rb P W m) (ho : Okc P W m) (h2 : 2 ≤ w.heap.size) (hu : u < W) (hx : -9223372036854775808 ≤ x ∧ x ≤ 9223372036854775807) (hlv : liveB m x = true) (k0 j0 : Nat) (hk0 : k0 < m.length) (hj0 : j0 < m[k0].st.length) (hx0 : x = ((m[k0].at j0 : Nat) : Int)) (c : Nat) (hc : m[k0].cl = c) (hc7 : c < 7) :
    Calls Tryz.prog 34 #[.pointer (some ⟨rb, 0, none⟩), .int .i64 (u : Nat), .int .i64 x] w fun e w' => e = .returned (.int .i64 0) ∧ LeftR M w rb P W (trimM u c (setM (m[k0].at j0) (u + 2) m)) w' := by
  have HR : Hid (Rf w M rb P W m) := h
  have HO : Hid (Okc P W m) := ho
  have H2 : Hid (2 ≤ w.heap.size) := h2
  have HU : Hid (u < W) := hu
  have HC7 : Hid (c < 7) := hc7
  have HLV : Hid (liveB m x = true) := hlv
  have hW : (W : Int) ≤ 8 := by have := ho.w1; omega
  have hP := ho.p1
  have hml := ho.fit.len
  have hm4 : m.length ≤ 4096 := by omega
  have v0 : ¬ ((u : Int) < 0) := by omega
  have v1 : ¬ ((W : Int) ≤ (u : Int)) := by omega
  have v3 : ((c : Int) == 7) = false := by rw [beq_eq_false_iff_ne]; omega
  have hin0 : In m (m[k0].at j0) m[k0].z m[k0].cl m[k0].st[j0] := ⟨m[k0], List.getElem_mem hk0, j0, List.getElem?_eq_getElem hj0, rfl, rfl, rfl⟩
  obtain ⟨A, hA⟩ : ∃ A, m[k0].at j0 = A := ⟨_, rfl⟩
  rw [hA] at hx0 hin0 ⊢
  have AB : A ≤ 1048576 := by have := (hin0.bound ho.fit).2.1; omega
  have FIN0 : Hid (∃ z c' y, In m A z c' y) := ⟨_, _, _, hin0⟩
  rw [hc] at hin0
  have FT1 : Fit W P 0 (setM A (u + 2) m) := ho.fit.set A (u + 2) (by omega) (fun z c' y hi e => by have := (In.one ho.fit hi hin0).2.1; omega)
  have HCL : Hid (∀ k j (hk : k < m.length), j < m[k].st.length → A = m[k].at j → m[k].cl = c) := fun k j hk hj e => by
    have hi : In m A m[k].z m[k].cl m[k].st[j] := ⟨m[k], List.getElem_mem hk, j, List.getElem?_eq_getElem hj, e, rfl, rfl⟩
    exact (In.one ho.fit hi hin0).2.1
  have OK1 : Hid (Okc P W (setM A (u + 2) m)) := ho.fit' FT1
  obtain ⟨m1, hm1⟩ : ∃ m1, setM A (u + 2) m = m1 := ⟨_, rfl⟩
  have HM1 : Hid (setM A (u + 2) m = m1) := hm1
  rw [hm1] at OK1 ⊢
  subst hx0
  obtain ⟨a, cap, gs, hRm⟩ := h
  have b1 := hRm.box1
  clear hRm ho h2 hlv hin0 hA hj0 hm1 FT1 hc hu hml
  go_enter Tryz.func34, Tryz.ntmps34
  go_wp2_with fail
  refine (mlive_any M rb P W m (A : Int) _ HR.out HO.out H2.out hx true HLV.out).mono ?_
  rintro e w2 ⟨rfl, b2⟩
  have R2 : Hid (Rf w2 M rb P W m) := HR.out.below H2.out b2
  have T2 : Hid (2 ≤ w2.heap.size) := Nat.le_trans H2.out b2.size
  have M2 : Hid (Mv M w M w2) := Mv.below (Ext.refl _ _) b2
  clear b2
  go_wp2_with fail
  refine (mfind_any M rb P W m (A : Int) _ R2.out HO.out T2.out hx).mono ?_
  rintro e w3 ⟨fr, fs, rfl, hF, b3⟩
  obtain ⟨k, j, rfl, rfl, hk, hj, hat⟩ := hF.spot HO.out.fit FIN0.out
  have R3 := R2.out.below T2.out b3
  obtain ⟨cap3, g, q, sp⟩ := R3.spot HO.out.fit k j hk hj
  have hclk := HCL.out k j hk hj hat
  have SET := sp.set (u + 2)
  rw [← hat, HM1.out] at SET
  obtain ⟨S, hS⟩ : ∃ S, w3.setCell ⟨q, j, none⟩ (.int .i64 ((u + 2 : Nat) : Int)) = S := ⟨_, rfl⟩
  have HS : Hid (w3.setCell ⟨q, j, none⟩ (.int .i64 (2 + (u : Int))) = S) := by show _ = _; rw [← hS, show (2 + (u : Int)) = ((u + 2 : Nat) : Int) by omega]
  rw [hS] at SET
  have RS : Hid (Rf S M rb P W m1) := SET.1
  have MS : Hid (Mv M w M S) := (M2.out.trans (Mv.below (Ext.refl _ _) b3)).trans (Mv.tu' SET.2)
  have TS : Hid (2 ≤ S.heap.size) := Nat.le_trans (Nat.le_trans T2.out b3.size) SET.2.size
  have s1 := sp.b2
  have sc := sp.c1
  have s2 := sp.c3
  have s3 := sp.cx
  have s4 := sp.fz
  have kn := sp.kn
  have L16 := sp.L16
  have jl := sp.jL
  rw [hclk] at sc
  obtain ⟨y, hy⟩ : ∃ y, m[k].st[j] = y := ⟨_, rfl⟩
  rw [hy] at s3
  obtain ⟨L, hL⟩ : ∃ L, m[k].st.length = L := ⟨_, rfl⟩
  obtain ⟨N, hN⟩ : ∃ N, m.length = N := ⟨_, rfl⟩
  rw [hL] at s2 L16 jl
  rw [hN] at s1 kn
  have i0 : (k : Int) < (N : Int) := by omega
  have i1 : (j : Int) < (L : Int) := by omega
  have wu : IntKind.i64.wrap (2 + (u : Int)) = 2 + (u : Int) := by rw [IntKind.wrap_i64]; omega
  clear sp SET hat hy hL hN b3 hF hclk hS R3
  go_upto_region 11 with (fail)
  (try rw [HS.out])
  go_wp2_with fail
  refine (mkept_any M rb P W m1 (u : Int) (c : Int) _ RS.out OK1.out TS.out _ (keptI_of HU.out HC7.out)).mono ?_
  rintro e w5 ⟨ka, kc, rfl, ko, b5⟩
  obtain ⟨M5, hM5⟩ : ∃ M5, lab M S.heap.size 0 = M5 := ⟨_, rfl⟩
  have ext5 : Ext S M M5 := by rw [← hM5]; exact lab_ext S M 0
  have R5 : Hid (Rf w5 M5 rb P W m1) := RS.out.same ext5 TS.out (fun k o ho _ => by rw [b5.block k (hlt ho)]; exact ho)
  have T5 : Hid (2 ≤ w5.heap.size) := Nat.le_trans TS.out b5.size
  have MM5 : Hid (Mv M w M5 w5) := MS.out.trans (Mv.below ext5 b5)
  have NEW : Hid (∀ k, S.heap.size ≤ k → M5 k = 0) := fun k hk => by rw [← hM5]; exact lab_new hk
  obtain ⟨l, hl⟩ : ∃ l, keptM u c m1 = l := ⟨_, rfl⟩
  have HL : Hid (keptM u c m1 = l) := hl
  have KO : Hid (OwnsI w5 S.heap.size ka (l.map Int.ofNat) kc) := by rw [← hl]; exact ko
  rw [hl, List.length_map]
  have kcap := KO.out.parts
  rw [List.length_map] at kcap
  unfold maxLen at kcap
  have PT : Hid (trimM u c m1 = if 8 < l.length then setsM (l.drop (l.length - 4)) 0 m1 else m1) := by show _ = _; unfold trimM; rw [hl]
  have LB : Hid (∀ y ∈ l, y ≤ 1048576 ∧ ∃ z, In m1 y z c (u + 2)) := fun y hy => by
    rw [← hl] at hy
    obtain ⟨z, hz⟩ := mem_keptM.1 hy
    have := (hz.bound OK1.out.fit).2.1
    exact ⟨by omega, z, hz⟩
  obtain ⟨n, hn⟩ : ∃ n, l.length = n := ⟨_, rfl⟩
  have HNN : Hid (l.length = n) := hn
  rw [hn] at kcap ⊢
  clear ko b5 hl hn ext5 hM5
  by_cases h8 : 8 < n
  · obtain ⟨E, rfl⟩ : ∃ E, n = E + 4 := ⟨n - 4, by omega⟩
    have hTL : (l.drop E).length = 4 := by rw [List.length_drop, HNN.out]; omega
    obtain ⟨kg, rfl, kx⟩ := KO.out.at 0 (by rw [List.length_map, HNN.out]; omega)
    clear kx
    obtain ⟨T, hT⟩ : ∃ T, l.drop E = T := ⟨_, rfl⟩
    have PT' : Hid (trimM u c m1 = setsM T 0 m1) := by show _ = _; rw [PT.out, HNN.out, if_pos h8, show E + 4 - 4 = E by omega, hT]
    rw [hT] at hTL
    have HTL : Hid (T.length = 4) := hTL
    have TM : Hid (∀ y ∈ T, y ∈ l) := fun y hy => by rw [← hT] at hy; exact List.mem_of_mem_drop hy
    have KC : Hid (∀ j (hj : j < T.length), w5.cell? ⟨kg, E + j, none⟩ = some (.int .i64 (T[j] : Nat))) := fun j hj => by
      obtain ⟨g', e, hc⟩ := KO.out.at (E + j) (by rw [List.length_map, HNN.out]; omega)
      cases e
      rw [hc]
      simp only [List.getElem_map]
      congr 2
      have : T[j] = l[E + j]'(by rw [HNN.out]; omega) := by subst hT; rw [List.getElem_drop]
      rw [this]; rfl
    have SZ : Hid (S.heap.size ≤ kg) := KO.out.ge kg rfl
    have w4 : IntKind.i64.wrap ((E : Int) + 4 - 4) = (E : Int) := by rw [IntKind.wrap_i64]; omega
    have e8 : (8 : Int) < (E : Int) + 4 := by omega
    have ec : (E : Int) + 4 ≤ (kc : Int) := by omega
    have ecn : (kc = E) = False := eq_false (by omega)
    have e44 : E + 4 - E = 4 := by omega
    have KG0 : Hid (M5 kg = 0) := NEW.out kg SZ.out
    have KGL : Hid (kg < w5.heap.size) := World.block_lt_of_cell? w5 _ (KC.out 0 (by omega))
    clear h8 hT hTL PT HL
    go_wp2_with fail
    go_loopw [73] (fun jv wr => ∃ j : Nat, j ≤ 4 ∧ jv = .int .i64 (j : Nat) ∧ Rf wr M5 rb P W (setsM (T.take j) 0 m1) ∧ Tu (fun k => M5 k ≠ 0) w5 wr) (fun jv _ => 4 - lenW jv)
    case atStart => exact ⟨0, by omega, rfl, by rw [List.take_zero, sets_nil]; exact R5.out, Tu.refl _ _⟩
    case round =>
      obtain ⟨j, hj, rfl, hRj, hTj⟩ := hrel
      rename World => wr
      have HRJ : Hid (Rf wr M5 rb P W (setsM (T.take j) 0 m1)) := hRj
      have HTJ : Hid (Tu (fun k => M5 k ≠ 0) w5 wr) := hTj
      have TWO : Hid (2 ≤ wr.heap.size) := Nat.le_trans T5.out hTj.size
      clear hRj hTj
      by_cases hj4 : j < 4
      · have hjT : j < T.length := by rw [HTL.out]; exact hj4
        have cj := (HTJ.out.cell (g := kg) (j := E + j) (fun e => e KG0.out) KGL.out).trans (KC.out j hjT)
        obtain ⟨lb1, z1, in1⟩ := LB.out T[j] (TM.out _ (List.getElem_mem hjT))
        have FTj : Fit W P 0 (setsM (T.take j) 0 m1) := OK1.out.fit.sets _ 0 (by omega) (fun _ _ _ _ _ _ _ => by omega)
        have OKj : Hid (Okc P W (setsM (T.take j) 0 m1)) := OK1.out.fit' FTj
        have INj : Hid (∃ z c' y, In (setsM (T.take j) 0 m1) T[j] z c' y) := by
          by_cases e : T[j] ∈ T.take j
          · exact ⟨z1, c, 0, sets_in.2 (.inl ⟨e, rfl, _, in1⟩)⟩
          · exact ⟨z1, c, u + 2, sets_in.2 (.inr ⟨e, in1⟩)⟩
        have STP := sets_step (m := m1) j hjT
        obtain ⟨t, ht⟩ : ∃ t, T[j] = t := ⟨_, rfl⟩
        rw [ht] at cj lb1 INj STP
        have HSTP : Hid (setM t 0 (setsM (T.take j) 0 m1) = setsM (T.take (j + 1)) 0 m1) := STP
        obtain ⟨mj, hmj⟩ : ∃ mj, setsM (T.take j) 0 m1 = mj := ⟨_, rfl⟩
        rw [hmj] at HRJ OKj INj HSTP
        have j4 : (j : Int) < 4 := by omega
        clear ht STP FTj in1 hmj
        go_wp2_with fail
        refine (mfind_any M5 rb P W mj (t : Int) _ HRJ.out OKj.out TWO.out (by omega)).mono ?_
        rintro e w7 ⟨fr, fs, rfl, hF, b7⟩
        obtain ⟨k, i, rfl, rfl, hk, hi, hat⟩ := hF.spot OKj.out.fit INj.out
        obtain ⟨cap7, g, q, sp⟩ := (HRJ.out.below TWO.out b7).spot OKj.out.fit k i hk hi
        have SET := sp.set 0
        rw [← hat, HSTP.out] at SET
        have N1 : Hid (Rf (w7.setCell ⟨q, i, none⟩ (.int .i64 0)) M5 rb P W (setsM (T.take (j + 1)) 0 m1)) := SET.1
        have N2 : Hid (Tu (fun k => M5 k ≠ 0) w5 (w7.setCell ⟨q, i, none⟩ (.int .i64 0))) := HTJ.out.trans ((Tu.ofBelow b7).trans SET.2)
        have s1 := sp.b2
        have s2 := sp.c3
        have s3 := sp.cx
        have s4 := sp.fz
        have kn := sp.kn
        have L16 := sp.L16
        have jl := sp.jL
        obtain ⟨y, hy⟩ : ∃ y, mj[k].st[i] = y := ⟨_, rfl⟩
        rw [hy] at s3
        obtain ⟨L7, hL7⟩ : ∃ L7, mj[k].st.length = L7 := ⟨_, rfl⟩
        obtain ⟨N7, hN7⟩ : ∃ N7, mj.length = N7 := ⟨_, rfl⟩
        rw [hL7] at s2 L16 jl
        rw [hN7] at s1 kn
        have i0 : (k : Int) < (N7 : Int) := by omega
        have i1 : (i : Int) < (L7 : Int) := by omega
        clear sp SET hat hy hL7 hN7 b7 hF
        go_wp2
        go_roundw
        case rel => exact ⟨j + 1, by omega, by congr 1, N1.out, N2.out⟩
        case measure => simp [lenW]; omega
      · obtain rfl : j = 4 := by omega
        have F : Hid (LeftR M w rb P W (trimM u c m1) wr) := by
          rw [PT'.out]
          have := HRJ.out
          rw [List.take_of_length_le (Nat.le_of_eq HTL.out)] at this
          exact ⟨M5, this, MM5.out.trans (Mv.tu' HTJ.out)⟩
        go_wp2
        go_ret
        exact ⟨rfl, F.out⟩
  · have e8 : ¬ ((8 : Int) < (n : Int)) := by omega
    have F : Hid (LeftR M w rb P W (trimM u c m1) w5) := by rw [PT.out, HNN.out, if_neg h8]; exact ⟨M5, R5.out, MM5.out⟩
    clear h8
    go_wp2
    go_ret
    exact ⟨rfl, F.out⟩
end Go.Proofs.YtgmljgogmbaioaaGreatDoor

/- The document's cache: Give, all ways; Scavenge. -/
namespace Go.Proofs.YtgmljgogmbaioaaGreatDoor
open Go.RowKit
set_option linter.unusedVariables false
set_option maxRecDepth 4000

set_option maxHeartbeats 2000000 in
theorem mgive_large (M : Nat → Nat) (rb P W : Nat) (m : List Sg) (u : Nat) (x : Int) (w : World) (h : Rf w M rb P W m) (ho : Okc P W m) (h2 : 2 ≤ w.heap.size) (hu : u < W) (hx : -9223372036854775808 ≤ x ∧ x ≤ 9223372036854775807) (hlv : liveB m x = true) (k0 j0 : Nat) (hk0 : k0 < m.length) (hj0 : j0 < m[k0].st.length) (hx0 : x = ((m[k0].at j0 : Nat) : Int)) (hc : m[k0].cl = 7) (m' : List Sg) (hm' : m.take k0 ++ m.drop (k0 + 1) = m') :
    Calls Tryz.prog 34 #[.pointer (some ⟨rb, 0, none⟩), .int .i64 (u : Nat), .int .i64 x] w fun e w' => e = .returned (.int .i64 0) ∧ LeftR M w rb P W m' w' := by
  have HR : Hid (Rf w M rb P W m) := h
  have HO : Hid (Okc P W m) := ho
  have H2 : Hid (2 ≤ w.heap.size) := h2
  have HLV : Hid (liveB m x = true) := hlv
  have hW : (W : Int) ≤ 8 := by have := ho.w1; omega
  have hP := ho.p1
  have hml := ho.fit.len
  have hm4 : m.length ≤ 4096 := by omega
  have HM4 : Hid (m.length ≤ 4096) := hm4
  have v0 : ¬ ((u : Int) < 0) := by omega
  have v1 : ¬ ((W : Int) ≤ (u : Int)) := by omega
  have hin0 : In m (m[k0].at j0) m[k0].z m[k0].cl m[k0].st[j0] := ⟨m[k0], List.getElem_mem hk0, j0, List.getElem?_eq_getElem hj0, rfl, rfl, rfl⟩
  have ONE : Hid (∀ k j (hk : k < m.length), j < m[k].st.length → m[k0].at j0 = m[k].at j → k = k0) := fun k j hk hj e => by
    have ok1 := (ho.fit.ok _ (List.getElem_mem hk)).1
    have ok2 := (ho.fit.ok _ (List.getElem_mem hk0)).1
    have b1 := ok1.at_in hj
    have b2 := ok2.at_in hj0
    have z1 := ok1.facts.2.2.1
    have z2 := ok2.facts.2.2.1
    rcases Nat.lt_trichotomy k k0 with q | q | q
    · have := (ho.fit.split hk0).2 m[k] (by rw [List.mem_iff_getElem]; exact ⟨k, by simp; omega, by simp⟩)
      omega
    · exact q
    · have := (ho.fit.split hk).2 m[k0] (by rw [List.mem_iff_getElem]; exact ⟨k0, by simp; omega, by simp⟩)
      omega
  obtain ⟨A, hA⟩ : ∃ A, m[k0].at j0 = A := ⟨_, rfl⟩
  rw [hA] at hx0 hin0 ONE
  have FIN0 : Hid (∃ z c' y, In m A z c' y) := ⟨_, _, _, hin0⟩
  have HC : Hid (m[k0].cl = 7) := hc
  have HM' : Hid (m.take k0 ++ m.drop (k0 + 1) = m') := hm'
  subst hx0
  obtain ⟨a, cap, gs, hRm⟩ := h
  have b1 := hRm.box1
  clear hRm ho h2 hlv hin0 hA hj0 hml hm'
  go_enter Tryz.func34, Tryz.ntmps34
  go_wp2_with fail
  refine (mlive_any M rb P W m (A : Int) _ HR.out HO.out H2.out hx true HLV.out).mono ?_
  rintro e w2 ⟨rfl, b2⟩
  have R2 : Hid (Rf w2 M rb P W m) := HR.out.below H2.out b2
  have T2 : Hid (2 ≤ w2.heap.size) := Nat.le_trans H2.out b2.size
  have M2 : Hid (Mv M w M w2) := Mv.below (Ext.refl _ _) b2
  clear b2
  go_wp2_with fail
  refine (mfind_any M rb P W m (A : Int) _ R2.out HO.out T2.out hx).mono ?_
  rintro e w3 ⟨fr, fs, rfl, hF, b3⟩
  obtain ⟨k, j, rfl, rfl, hk, hj, hat⟩ := hF.spot HO.out.fit FIN0.out
  obtain rfl := ONE.out k j hk hj hat
  have R3 : Hid (Rf w3 M rb P W m) := R2.out.below T2.out b3
  have T3 : Hid (2 ≤ w3.heap.size) := Nat.le_trans T2.out b3.size
  have M3 : Hid (Mv M w M w3) := M2.out.trans (Mv.below (Ext.refl _ _) b3)
  obtain ⟨cap3, g, q, sp⟩ := R3.out.spot HO.out.fit k j hk hj
  have s1 := sp.b2
  have sc := sp.c1
  have kn := sp.kn
  rw [HC.out] at sc
  have KM : Hid (k < m.length) := hk
  obtain ⟨N, hN⟩ : ∃ N, m.length = N := ⟨_, rfl⟩
  rw [hN] at s1 kn hm4
  have i0 : (k : Int) < (N : Int) := by omega
  clear sp hat hN b3 hF
  go_wp2_with fail
  refine (mdrop_any M rb P W m k _ R3.out T3.out KM.out HM4.out).mono ?_
  rw [HM'.out]
  rintro e w4 ⟨rfl, l4⟩
  have L4 : Hid (LeftR M w rb P W m' w4) := LeftR.trans M3.out l4
  clear l4
  go_wp2
  go_ret
  exact ⟨rfl, L4.out⟩
theorem mgive_any (M : Nat → Nat) (rb P W : Nat) (m : List Sg) (v x : Int) (w : World) (h : Rf w M rb P W m) (ho : Okc P W m) (h2 : 2 ≤ w.heap.size) (hx : -9223372036854775808 ≤ x ∧ x ≤ 9223372036854775807) :
    Calls Tryz.prog 34 #[.pointer (some ⟨rb, 0, none⟩), .int .i64 v, .int .i64 x] w fun e w' => e = .returned (.int .i64 ((giveM W v x m).1 : Nat)) ∧ LeftR M w rb P W (giveM W v x m).2 w' := by
  by_cases hv : 0 ≤ v ∧ v < (W : Int)
  · cases hlv : liveB m x with
    | false =>
      rw [give_not hv hlv]
      have HR : Hid (Rf w M rb P W m) := h
      have HO : Hid (Okc P W m) := ho
      have H2 : Hid (2 ≤ w.heap.size) := h2
      have HLV : Hid (liveB m x = false) := hlv
      have hW : (W : Int) ≤ 8 := by have := ho.w1; omega
      have v0 : ¬ (v < 0) := by omega
      have v1 : ¬ ((W : Int) ≤ v) := by omega
      obtain ⟨a, cap, gs, hRm⟩ := h
      have b1 := hRm.box1
      clear hRm ho h2 hlv hv
      go_enter Tryz.func34, Tryz.ntmps34
      go_wp2_with (go_at_call 35; refine (mlive_any M rb P W m x _ HR.out HO.out H2.out hx false HLV.out).mono ?_; rintro e w2 ⟨rfl, b2⟩; have L2 : Hid (LeftR M w rb P W m w2) := ⟨M, HR.out.below H2.out b2, Mv.below (Ext.refl _ _) b2⟩; clear b2)
      go_ret
      exact ⟨rfl, L2.out⟩
    | true =>
      obtain ⟨u, rfl⟩ : ∃ u : Nat, v = u := ⟨v.toNat, by omega⟩
      obtain ⟨h0, z, c, s, hs, i, h1, h3, _⟩ := (liveB_of ho.fit).1 hlv
      obtain ⟨k, hk, rfl⟩ := List.getElem_of_mem hs
      have hj := (List.getElem?_eq_some_iff.1 h1).1
      have hxe : x = ((m[k].at i : Nat) : Int) := by omega
      obtain ⟨g1, g2⟩ := mgive_live ho.fit hv hlv k i hk hj hxe
      rw [g2]
      by_cases h7 : m[k].cl = 7
      · rw [if_pos h7]
        exact mgive_large M rb P W m u x w h ho h2 (by omega) hx hlv k i hk hj hxe h7 _ rfl
      · rw [if_neg h7, Int.toNat_natCast]
        have ok := (ho.fit.ok _ (List.getElem_mem hk)).1
        exact mgive_small M rb P W m u x w h ho h2 (by omega) hx hlv k i hk hj hxe m[k].cl rfl (by have := ok.c7; omega)
  · have GE : giveM W v x m = (2, m) := by unfold giveM; rw [if_pos hv]
    rw [GE]
    have F : Hid (LeftR M w rb P W m w) := LeftR.refl h
    obtain ⟨a, cap, gs, hRm⟩ := h
    have b1 := hRm.box1
    have hW : (W : Int) ≤ 8 := by have := ho.w1; omega
    clear hRm ho h2 GE
    rcases Int.lt_or_le v 0 with hn | hn
    · clear hv
      go_enter Tryz.func34, Tryz.ntmps34
      go_wp2
      go_ret
      exact ⟨rfl, F.out⟩
    · have hn' : (W : Int) ≤ v := by omega
      clear hv
      go_enter Tryz.func34, Tryz.ntmps34
      go_wp2
      go_ret
      exact ⟨rfl, F.out⟩
end Go.Proofs.YtgmljgogmbaioaaGreatDoor
