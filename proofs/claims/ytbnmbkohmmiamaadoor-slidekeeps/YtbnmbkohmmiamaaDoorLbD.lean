/- Spans that stand: how they are kept and turned; those of a class. -/
import Derived.Test.YtbnmbkohmmiamaaDoorLbC
namespace Go.Proofs.YtbnmbkohmmiamaaDoor
open Go.RowKit
set_option linter.unusedVariables false

theorem Sta.keep {w wr w' : World} {L : Nat → Nat} {a : Option Addr} {ps : List Nat} {n c : Nat} {m : List Sn} {F : Nat → Nat → Bool} (h : Sta w wr L a ps n c m F) (hb : Below wr.heap.size wr w') : Sta w w' L a ps n c m F :=
  ⟨h.sp.keep hb, h.row.keep hb, h.plen, h.rz, h.low, fun k hk => h.high k (by have := hb.size; omega), h.bel.trans (hb.mono h.bel.size), h.two⟩
/-- Blocks of no span and no pointers turned. -/
theorem Sta.tu {S : Nat → Prop} {w wr w' : World} {L : Nat → Nat} {a : Option Addr} {ps : List Nat} {n c : Nat} {m : List Sn} {F : Nat → Nat → Bool} (h : Sta w wr L a ps n c m F) (ht : Tu S wr w') (hS : ∀ k, S k → L k = 0 ∧ w.heap.size ≤ k ∧ ob a ≠ some k) : Sta w w' L a ps n c m F :=
  ⟨h.sp.tu ht (fun k hk => ⟨(hS k hk).1, by have := (hS k hk).2.1; have := h.two; omega⟩), h.row.same (fun g o hg ho => ht.block g o ho (fun hk => (hS g hk).2.2 hg)), h.plen, h.rz, h.low, fun k hk => h.high k (by have := ht.size; omega), h.bel.trans (ht.below (fun k hk => (hS k hk).2.1) h.bel.size), h.two⟩
/-- A span in memory. -/
theorem Sta.at {w wr : World} {L : Nat → Nat} {a : Option Addr} {ps : List Nat} {n c : Nat} {m : List Sn} {F : Nat → Nat → Bool} (h : Sta w wr L a ps n c m F) (i : Nat) (hi : i < m.length) : ∃ b g, SpanAt wr (ps.getD i 0) b g ((sn m i).pg : Int) ((sn m i).cl : Int) ((sn m i).bts : Int) (F i) ∧ L (ps.getD i 0) = i + 1 ∧ L b = i + 1 ∧ L g = i + 1 := by
  have hp : i < ps.length := by rw [h.sp.len]; exact hi
  rw [getD_eq 0 hp]
  exact h.sp.sp i hi hp
theorem Sta.turned {w wr w' : World} {L : Nat → Nat} {a : Option Addr} {ps : List Nat} {n c : Nat} {m : List Sn} {F : Nat → Nat → Bool} (h : Sta w wr L a ps n c m F) (i : Nat) (hi : i < m.length) (b g : Nat) (f' : Nat → Bool) (hp' : L (ps.getD i 0) = i + 1) (hb : L b = i + 1) (hg : L g = i + 1) (hs : SpanAt w' (ps.getD i 0) b g ((sn m i).pg : Int) ((sn m i).cl : Int) ((sn m i).bts : Int) f') (on : Only g wr w') : Sta w w' L a ps n c m (updF F i f') := by
  have hp : i < ps.length := by rw [h.sp.len]; exact hi
  rw [getD_eq 0 hp] at hs hp'
  refine ⟨h.sp.turned i hi hp b g f' hb hg hp' hs on, h.row.same (fun q o hq ho => by rw [on.block q (fun e => by have := h.rz q hq; rw [e] at this; omega)]; exact ho), h.plen, h.rz, h.low, fun k hk => h.high k (by rw [on.size] at hk; exact hk), h.bel.trans (on.below ?_), h.two⟩
  rcases Nat.lt_or_ge g w.heap.size with k | k
  · have := h.low g k; omega
  · exact k
/-- A row of pointers to some of the spans. -/
structure Sub (w wr : World) (L : Nat → Nat) (ps : List Nat) (own : List Nat) (aq : Option Addr) (nq cq : Nat) : Prop where
  row : Ps wr w.heap.size aq (own.map (fun i => ps.getD i 0)) cq
  len : own.length = nq
  rz : ∀ g, ob aq = some g → L g = 0
theorem Sub.keep {w wr w' : World} {L : Nat → Nat} {ps own : List Nat} {aq : Option Addr} {nq cq : Nat} (h : Sub w wr L ps own aq nq cq) (hb : Below wr.heap.size wr w') : Sub w w' L ps own aq nq cq := ⟨h.row.keep hb, h.len, h.rz⟩
theorem Sub.same {w wr w' : World} {L : Nat → Nat} {ps own : List Nat} {aq : Option Addr} {nq cq : Nat} (h : Sub w wr L ps own aq nq cq) (he : ∀ g o, ob aq = some g → wr.heap[g]? = some o → w'.heap[g]? = some o) : Sub w w' L ps own aq nq cq := ⟨h.row.same he, h.len, h.rz⟩
theorem Sub.at {w wr : World} {L : Nat → Nat} {ps own : List Nat} {aq : Option Addr} {nq cq : Nat} (h : Sub w wr L ps own aq nq cq) (r : Nat) (hr : r < own.length) : ∃ g, aq = some ⟨g, 0, none⟩ ∧ wr.cell? ⟨g, r, none⟩ = some (.pointer (some ⟨ps.getD (own.getD r 0) 0, 0, none⟩)) := by
  obtain ⟨g, e, hc⟩ := h.row.at r (by simpa using hr)
  refine ⟨g, e, ?_⟩
  rw [hc, List.getElem_map, getD_eq 0 hr]
theorem Std.rt {P : Nat} {m : List Sn} (h : Std P m) (i : Nat) (hi : i < m.length) : Rt ((sn m i).pg : Int) ((sn m i).cl : Int) ((sn m i).bts : Int) := by
  have ok := h.ok i hi
  have tp := h.top i hi
  have ms := h.most
  exact ⟨by omega, by have := ok.c7; omega, fun e => by have := ok.sm (by omega); omega, fun e => ok.lg (by omega), by omega, by have e : (sn m i).k = pgsN ((sn m i).cl : Int) ((sn m i).bts : Int) := rfl; omega⟩
set_option maxRecDepth 20000 in
set_option maxHeartbeats 2000000 in
theorem ofClass_any (w wr : World) (L : Nat → Nat) (a : Option Addr) (ps : List Nat) (n c : Nat) (m : List Sn) (F : Nat → Nat → Bool) (k : Nat) (h : Sta w wr L a ps n c m F) (hm : m.length = n) (hn : n ≤ 4096) :
    Calls Tryd.prog 28 #[.slice a n c, .int .i64 (k : Nat)] wr fun e w' => ∃ aq nq cq, e = .returned (.slice aq nq cq) ∧ Sub w w' L ps (ownL k m) aq nq cq ∧ Below wr.heap.size wr w' := by
  have ST : Hid (Sta w wr L a ps n c m F) := h
  have HM : Hid (m.length = n) := hm
  clear h hm
  go_enter Tryd.func28, Tryd.ntmps28
  go_wp2_with fail
  go_loopw [5, 10] (fun sv iv wz => ∃ (i : Nat) (aq : Option Addr) (nq cq : Nat), i ≤ n ∧ iv = .int .i64 (i : Nat) ∧ sv = .slice aq nq cq ∧ nq ≤ i ∧ Ps wz wr.heap.size aq ((ownU k m i).map (fun i => ps.getD i 0)) cq ∧ (ownU k m i).length = nq ∧ Below wr.heap.size wr wz) (fun _ iv _ => n - lenW iv)
  case atStart => exact ⟨0, none, 0, 0, Nat.zero_le _, rfl, rfl, Nat.le_refl _, Ps.nil _ _, rfl, Below.refl _ _⟩
  case round =>
    obtain ⟨i, aq, nq, cq, hi, rfl, rfl, hnq, hPs, hlen, hB⟩ := hrel
    rename World => wz
    have HP : Hid (Ps wz wr.heap.size aq ((ownU k m i).map (fun i => ps.getD i 0)) cq) := hPs
    have HL : Hid ((ownU k m i).length = nq) := hlen
    have HB : Hid (Below wr.heap.size wr wz) := hB
    clear hPs hlen hB
    by_cases hin : i < n
    · have him : i < m.length := by rw [HM.out]; exact hin
      have ipl : i < ps.length := by rw [ST.out.sp.len]; exact him
      obtain ⟨g, rfl, cp⟩ := (ST.out.keep HB.out).row.at i ipl
      obtain ⟨b, g2, sp, _⟩ := (ST.out.keep HB.out).at i him
      rw [← getD_eq 0 ipl] at cp
      obtain ⟨q, hq⟩ : ∃ q, ps.getD i 0 = q := ⟨_, rfl⟩
      rw [hq] at cp sp
      have BX : Hid (Bx wz q ((sn m i).pg : Int) ((sn m i).cl : Int) ((sn m i).bts : Int)) := sp.box
      have OU : ownU k m (i + 1) = ownU k m i ++ (if (sn m i).cl = k then [i] else []) := rfl
      obtain ⟨d, hd⟩ : ∃ d, (sn m i).cl = d := ⟨_, rfl⟩
      rw [hd] at BX OU
      have HOU : Hid (ownU k m (i + 1) = ownU k m i ++ (if d = k then [i] else [])) := OU
      have i0 : (i : Int) < (n : Int) := by omega
      clear sp OU hd him ipl
      by_cases hdk : d = k
      · have e1 : ((d : Int) == (k : Int)) = true := by rw [beq_iff_eq]; omega
        obtain ⟨D, hD⟩ : ∃ D, wz.alloc (.cells #[.pointer (some ⟨q, 0, none⟩)] 49) = D := ⟨_, rfl⟩
        have bD : Below wz.heap.size wz D := by rw [← hD]; exact (Below.refl _ wz).alloc (Nat.le_refl _) _
        have cD : D.cell? ⟨wz.heap.size, 0, none⟩ = some (.pointer (some ⟨q, 0, none⟩)) := by rw [← hD]; exact cell_of_row _ _ 0 _ _ _ (Go.heap_alloc_new wz _)
        have z1 := HB.out.size
        have z2 := bD.size
        obtain ⟨a9, c9, w9, run9, o9, u9, n9⟩ := appP_run wr.heap.size D (by omega) aq ((ownU k m i).map (fun i => ps.getD i 0)) nq cq (HP.out.keep bD) (by rw [List.length_map]; exact HL.out) wz.heap.size q 1 cD (by rw [List.length_map, HL.out]; omega)
        have O9 : Hid (Ps w9 wr.heap.size a9 ((ownU k m (i + 1)).map (fun i => ps.getD i 0)) c9) := by
          show Ps _ _ _ _ _
          rw [HOU.out, if_pos hdk, List.map_append]
          show Ps _ _ _ (_ ++ [ps.getD i 0]) _
          rw [hq]; exact o9
        have L9 : Hid ((ownU k m (i + 1)).length = nq + 1) := by show _ = _; rw [HOU.out, if_pos hdk, List.length_append, HL.out]; rfl
        have B9 : Hid (Below wr.heap.size wr w9) := HB.out.trans ((bD.mono z1).trans (u9.below (fun j e => (HP.out.ge j e).1) (by omega)))
        have RUN9 : Hid ((Builtin.append_ #[54, 54] 54 #[.slice aq nq cq, .slice (some ⟨wz.heap.size, 0, none⟩) 1 1]).run Tryd.prog D = .ok (.slice a9 (nq + 1) c9) w9) := run9
        clear bD cD run9 o9 u9 n9 hdk hq
        go_wp2_with (first
          | (go_at_call 49; refine (class_any q _ _ _ _ BX.out).mono ?_; rintro e w' ⟨rfl, rfl⟩)
          | (at_builtin; refine wpList_run rfl 54 rfl _ _ rfl (.slice aq nq cq) (.slice (some ⟨wz.heap.size, 0, none⟩) 1 1) _ _ rfl rfl RUN9.out ?_))
        go_roundw
        case rel => exact ⟨i + 1, a9, nq + 1, c9, by omega, by congr 1, rfl, by omega, O9.out, L9.out, B9.out⟩
        case measure => simp [lenW]; omega
      · have e1 : ((d : Int) == (k : Int)) = false := by rw [beq_eq_false_iff_ne]; omega
        have EQ : Hid (ownU k m (i + 1) = ownU k m i) := by show _ = _; rw [HOU.out, if_neg hdk, List.append_nil]
        clear hdk hq
        go_wp2_with (go_at_call 49; refine (class_any q _ _ _ _ BX.out).mono ?_; rintro e w' ⟨rfl, rfl⟩)
        go_roundw
        case rel => exact ⟨i + 1, aq, nq, cq, by omega, by congr 1, rfl, by omega, by rw [EQ.out]; exact HP.out, by rw [EQ.out]; exact HL.out, HB.out⟩
        case measure => simp [lenW]; omega
    · obtain rfl : i = n := by omega
      have F9 : Hid (Sub w wz L ps (ownL k m) aq nq cq) := by
        have e : ownL k m = ownU k m i := by unfold ownL; rw [HM.out]
        refine ⟨?_, by rw [e]; exact HL.out, fun g hg => ST.out.high g (HP.out.ge g hg).1⟩
        rw [e]
        have hp := HP.out
        obtain ⟨h0, h1 | ⟨g, c', cur, h1, hg, h2⟩⟩ := hp
        · exact ⟨h0, .inl h1⟩
        · exact ⟨h0, .inr ⟨g, c', cur, h1, by have := ST.out.bel.size; omega, h2⟩⟩
      go_wp2
      go_ret
      exact ⟨aq, nq, cq, rfl, F9.out, HB.out⟩
end Go.Proofs.YtbnmbkohmmiamaaDoor
