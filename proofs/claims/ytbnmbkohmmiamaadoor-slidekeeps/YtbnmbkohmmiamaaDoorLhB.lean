/- Plan: what it answers, at the mended code. -/
import Derived.Test.YtbnmbkohmmiamaaDoorLhA
import Derived.BigQuiet
namespace Go.Proofs.YtbnmbkohmmiamaaDoor
open Go.RowKit
set_option linter.unusedVariables false

theorem Told.mono {w : World} {B B' : Nat} {v : Value} {ts : List Td} (h : Told w B v ts) (hb : B' ≤ B) : Told w B' v ts := by
  obtain ⟨rs, h1, h2, h3⟩ := h
  refine ⟨rs, h1, ?_, fun r hr => (h3 r hr).mono hb⟩
  obtain ⟨h0, h | ⟨g, c', cur, q1, q2, q3⟩⟩ := h2
  · exact ⟨h0, .inl h⟩
  · exact ⟨h0, .inr ⟨g, c', cur, q1, Nat.le_trans hb q2, q3⟩⟩
theorem PlanP.drewN {w w' : World} {P : Int} {ts : List Td} {e : Ending} (h : PlanP w P ts e w') (q : Nat) : PlanP w P ts e (w'.drewN q) := by
  rcases h with ⟨h0, a1, n1, c1, a2, n2, c2, h1, h2, h3, h4, h5, h6⟩ | ⟨h0, h1, h6⟩
  · exact .inl ⟨h0, a1, n1, c1, a2, n2, c2, h1, h2, h3, h4, h5, ⟨h6.os, h6.tape, h6.output, h6.size, h6.block⟩⟩
  · exact .inr ⟨h0, h1, ⟨h6.os, h6.tape, h6.output, h6.size, h6.block⟩⟩
set_option maxRecDepth 20000 in
set_option maxHeartbeats 4000000 in
theorem plan_any : PlanC := by
  intro P a n cap ts w hT h hn hn9 hr
  have HT : Hid (Tabs w) := hT
  have H : Hid (RdT w a ts) := h
  have HN : Hid (ts.length = n) := hn
  have HRG : Hid (∀ t ∈ ts, -9223372036854775808 ≤ t.p ∧ t.p ≤ 9223372036854775807) := hr
  obtain ⟨r, hR⟩ : ∃ r, stdB P ts = r := ⟨_, rfl⟩
  have HR : Hid (stdB P ts = r) := hR
  clear hT h hn hr hR
  go_enter Tryd.func10, Tryd.ntmps10
  go_wp2_with fail
  refine (stand_any P a n cap ts _ HT.out H.out HN.out hn9 HRG.out r HR.out).mono ?_
  rintro e w1 (⟨rfl, a1, c1, L, ps, rfl, hst⟩ | ⟨rfl, rfl, b1⟩)
  · have hP : 1 ≤ P ∧ P ≤ 4096 := by
      have := HR.out
      unfold stdB at this
      rw [Bool.and_eq_true] at this
      exact of_decide_eq_true this.1
    obtain ⟨Q, rfl⟩ : ∃ Q : Nat, P = (Q : Int) := ⟨P.toNat, by omega⟩
    obtain ⟨sd, si⟩ := std_of HR.out
    have ml : (ts.map snT).length = n := by rw [List.length_map]; exact HN.out
    have n4 : n ≤ 4096 := by have := std_len sd; rw [ml] at this; omega
    obtain ⟨m, hm⟩ : ∃ m, ts.map snT = m := ⟨_, rfl⟩
    obtain ⟨F, hF⟩ : ∃ F, FT ts = F := ⟨_, rfl⟩
    rw [hm] at sd si ml
    rw [hF] at si
    rw [hm, hF] at hst
    have HMF : Hid (ts.map snT = m ∧ FT ts = F) := ⟨hm, hF⟩
    have SD : Hid (Std Q m) := sd
    have SI : Hid (InF m F) := si
    have ML : Hid (m.length = n) := ml
    obtain ⟨D, hD⟩ : ∃ D, w1.alloc (.cells #[.slice none 0 0] 25) = D := ⟨_, rfl⟩
    have bD : Below w1.heap.size w1 D := by rw [← hD]; exact (Below.refl _ w1).alloc (Nat.le_refl _) _
    have S0 : Hid (Sta w D L a1 ps n c1 m (clsF m F 0)) := hst.keep bD
    have T0 : Hid (Tl D L w.heap.size w1.heap.size none (clsV m F 0) 0 0) := ⟨by rw [← hD]; exact Go.heap_alloc_new w1 _, Vs.nil _ _, rfl, hst.bel.size, hst.high _ (Nat.le_refl _), fun g hg => by cases hg⟩
    obtain ⟨vb, hvb⟩ : ∃ vb, w1.heap.size = vb := ⟨_, rfl⟩
    rw [hvb] at T0
    clear hm hF hst sd si ml bD hP
    go_wp2_with fail
    (try rw [hvb])
    go_loopw [22] (fun iv wz => ∃ (k : Nat) (av : Option Addr) (nv cv : Nat), k ≤ 7 ∧ iv = .int .i64 (k : Nat) ∧ Sta w wz L a1 ps n c1 m (clsF m F k) ∧ Tl wz L w.heap.size vb av (clsV m F k) nv cv) (fun iv _ => 7 - lenW iv)
    case atStart => exact ⟨0, none, 0, 0, Nat.zero_le _, rfl, S0.out, T0.out⟩
    case round =>
      clear S0 T0
      obtain ⟨k, av, nv, cv, hk, rfl, hSt, hTl⟩ := hrel
      rename World => wz
      have SZ : Hid (Sta w wz L a1 ps n c1 m (clsF m F k)) := hSt
      have TZ : Hid (Tl wz L w.heap.size vb av (clsV m F k) nv cv) := hTl
      clear hSt hTl
      by_cases hk7 : k < 7
      · have k0 : (k : Int) < 7 := by omega
        go_wp2_with (first
          | (go_at_call 28; refine (ofClass_any w wz L a1 ps n c1 m _ k SZ.out ML.out n4).mono ?_; rintro e w2 ⟨aq, nq, cq, rfl, sq, b2⟩; have SQ : Hid (Sub w w2 L ps (ownL k m) aq nq cq) := sq; have S2 : Hid (Sta w w2 L a1 ps n c1 m (clsF m F k)) := SZ.out.keep b2; have T2 : Hid (Tl w2 L w.heap.size vb av (clsV m F k) nv cv) := TZ.out.keep b2; have NQ : Hid ((ownL k m).length = nq) := sq.len; clear sq b2)
          | (go_at_call 27; refine (gather_any w _ L a1 ps n c1 Q k vb nv cv av (clsV m F k) m (clsF m F k) _ _ _ S2.out SQ.out SD.out (cls_in SI.out k (by omega)) hk7 (by rw [← NQ.out]; have := ownU_len k m m.length; unfold ownL; have := ML.out; omega) T2.out (by rw [← NQ.out]; exact cls_room F k hk7 (by rw [ML.out]; exact n4))).mono ?_; rintro e w3 ⟨rfl, av', nv', cv', s3, t3⟩; have S3 : Hid (Sta w w3 L a1 ps n c1 m (clsF m F (k + 1))) := s3; have T3 : Hid (Tl w3 L w.heap.size vb av' (clsV m F (k + 1)) nv' cv') := t3; clear s3 t3))
        go_roundw
        case rel => exact ⟨k + 1, av', nv', cv', by omega, by congr 1, S3.out, T3.out⟩
        case measure => simp [lenW]; omega
      · obtain rfl : 7 = k := by omega
        have B1 : Hid (w.heap.size ≤ wz.heap.size) := SZ.out.bel.size
        go_wp2_with (go_at_call 29; refine (closeUp_any w wz L a1 ps n c1 Q vb nv cv av (clsV m F 7) m (clsF m F 7) SZ.out ML.out SD.out n4 TZ.out (by have := cls_room7 (m := m) F (by rw [ML.out]; exact n4); rw [ML.out] at this; exact this)).mono ?_; rintro e w2 ⟨at', nt, ct, rfl, hl, tl, av', nv', cv', s2, t2⟩; have HL : Hid ((toldU m (clsF m F 7) n).length = nt) := hl; have TO : Hid (Told w2 w.heap.size (.slice at' nt ct) (toldU m (clsF m F 7) n)) := tl.mono B1.out; have S2 : Hid (Below w.heap.size w w2) := s2.bel; have T2 : Hid (Tl w2 L w.heap.size vb av' (clsV m F 7 ++ mv2U m (clsF m F 7) n) nv' cv') := t2; have bx : w2.cell? ⟨vb, 0, none⟩ = some (.slice av' nv' cv') := cell_of_row _ _ 0 _ _ _ t2.box; clear hl tl s2 t2)
        have FIN : Hid (PlanP w (Q : Int) ts (.returned (.tuple #[.slice at' nt ct, .slice av' nv' cv', .int .i64 0])) w2) := by
          refine .inl ⟨HR.out, at', nt, ct, av', nv', cv', rfl, ?_⟩
          rw [HMF.out.1, HMF.out.2]
          unfold planT planV
          rw [ML.out]
          exact ⟨HL.out, T2.out.len, TO.out, T2.out.row, S2.out⟩
        clear HL TO S2 T2
        go_quiet (fail)
        go_wp2
        refine bodyPost_ret (v := .tuple #[.slice at' nt ct, .slice av' nv' cv', .int .i64 0]) (by simp [results, Tryd.results10, go_sem]) rfl ?_
        exact PlanP.drewN FIN.out _
  · have B1 : Hid (Below w.heap.size w w1) := b1
    clear b1
    go_wp2
    refine bodyPost_ret (v := .tuple #[.slice none 0 0, .slice none 0 0, .int .i64 4]) (by simp [results, Tryd.results10, go_sem]) rfl ?_
    exact .inr ⟨HR.out, rfl, B1.out⟩
end Go.Proofs.YtbnmbkohmmiamaaDoor
