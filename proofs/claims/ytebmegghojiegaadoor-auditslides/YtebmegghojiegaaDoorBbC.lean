/- What can be seen of a view: Objects. -/
import Derived.Test.YtebmegghojiegaaDoorBbA
import Derived.Test.YtebmegghojiegaaDoorBbB
import Derived.Test.YtebmegghojiegaaDoorAwI
namespace Go.Proofs.YtebmegghojiegaaDoor
open Go.RowKit
set_option linter.unusedVariables false

/-- What Objects answers. -/
def ObjsP (w : World) (V : Vw) (t : TypeId) (e : Ending) (w' : World) : Prop := ∃ r x, ChkR V r x ∧ ((r = 0 ∧ ∃ a n c, e = .returned (.slice a n c) ∧ (objsV V).length = n ∧ Tob w' w.heap.size t (.slice a n c) (objsV V)) ∨ (r ≠ 0 ∧ e = .returned (.slice none 0 0))) ∧ Below w.heap.size w w'
set_option maxRecDepth 20000 in
set_option maxHeartbeats 4000000 in
theorem objects_any (V : Vw) (A : Va) (w : World) (h : Rv w V A) (hT : TabC w) :
    Calls Tryd.prog 14 #[.agg #[.int .i64 V.base, .int .i64 V.pgs, .slice A.ka A.kn A.kc, .slice A.ra A.rn A.rc, .slice A.sa A.sn A.sc, .slice A.ba A.bn A.bc]] w (ObjsP w V 44) := by
  obtain ⟨E, hE, bE, rE⟩ := vbox w V A
  have HV : Hid (Rv E V A) := h.keep bE
  have HT : Hid (TabC E) := hT.keep bE
  have BE : Hid (Below w.heap.size w E) := bE
  have d0 : E.cell? ⟨w.heap.size, 0, none⟩ = some (.int .i64 V.base) := cell_of_row _ _ 0 _ _ _ rE
  have d1 : E.cell? ⟨w.heap.size, 1, none⟩ = some (.int .i64 V.pgs) := cell_of_row _ _ 1 _ _ _ rE
  have d2 : E.cell? ⟨w.heap.size, 2, none⟩ = some (.slice A.ka A.kn A.kc) := cell_of_row _ _ 2 _ _ _ rE
  have d3 : E.cell? ⟨w.heap.size, 3, none⟩ = some (.slice A.ra A.rn A.rc) := cell_of_row _ _ 3 _ _ _ rE
  have d4 : E.cell? ⟨w.heap.size, 4, none⟩ = some (.slice A.sa A.sn A.sc) := cell_of_row _ _ 4 _ _ _ rE
  have d5 : E.cell? ⟨w.heap.size, 5, none⟩ = some (.slice A.ba A.bn A.bc) := cell_of_row _ _ 5 _ _ _ rE
  have HRL : Hid (V.rs.length = A.rn) := h.rl
  have rz : A.rn ≤ 300 := by have := h.rz; have := h.rl; omega
  clear h hT bE rE
  go_enter Tryd.func14, Tryd.ntmps14
  go_wp2_with fail
  refine (look_any V A _ HV.out HT.out).mono ?_
  rintro e w2 ⟨lb, ms, mi, nf, nr, f, rfl, lk, hlb, b2⟩
  have LK : Hid (Lk w2 lb ms mi V A nf nr f) := lk
  have B2 : Hid (Below w.heap.size w w2) := BE.out.trans (b2.mono BE.out.size)
  clear lk b2 d0 d1 d2 d3 d4 d5
  go_wp2_with fail
  refine (broken_any lb ms mi V A nf nr f _ LK.out).mono ?_
  rintro e w3 ⟨r, x, rfl, hc, b3⟩
  have HC : Hid (ChkR V r x) := hc
  have B3 : Hid (Below w.heap.size w w3) := B2.out.trans (b3.mono B2.out.size)
  have L3 : Hid (Lk w3 lb ms mi V A nf nr f) := LK.out.keep b3
  obtain ⟨c0, c7⟩ := hc.bound
  by_cases hr : r = 0
  · have HH : Hid (Hold V 7) := hc.zero.1 hr
    subst hr
    have e3 : w3.cell? ⟨lb, 3, none⟩ = some (.slice A.ra A.rn A.rc) := cell_of_row _ _ 3 _ _ _ L3.out.box
    obtain ⟨rn, hrn⟩ : ∃ rn, A.rn = rn := ⟨_, rfl⟩
    obtain ⟨ra, hra⟩ : ∃ ra, A.ra = ra := ⟨_, rfl⟩
    obtain ⟨rc, hrc⟩ : ∃ rc, A.rc = rc := ⟨_, rfl⟩
    have HIW : Hid (IsW w3 ra V.rs) := by show IsW _ _ _; rw [← hra]; exact L3.out.vw.rs
    rw [hrn] at HRL rz
    rw [hrn, hra, hrc] at e3
    clear hc b3 c0 c7 hrn hra hrc
    go_wp2_with fail
    go_loopw [6, 24] (fun lv iv wz => ∃ (k : Nat) (a : Option Addr) (n c : Nat), k ≤ rn ∧ iv = .int .i64 (k : Nat) ∧ lv = .slice a n c ∧ (objsU V k).length = n ∧ Tob wz w3.heap.size 44 (.slice a n c) (objsU V k) ∧ Below w3.heap.size w3 wz) (fun _ iv _ => rn - lenW iv)
    case atStart => exact ⟨0, none, 0, 0, Nat.zero_le _, rfl, rfl, rfl, Tob.nil _ _ _, Below.refl _ _⟩
    case round =>
      obtain ⟨k, a, n, c, hk, rfl, rfl, hn, ht, hb⟩ := hrel
      rename World => wz
      have HT : Hid (Tob wz w3.heap.size 44 (.slice a n c) (objsU V k)) := ht
      have HB : Hid (Below w3.heap.size w3 wz) := hb
      have HN : Hid ((objsU V k).length = n) := hn
      have n9 : n ≤ 300 := by have := objsU_len V k; omega
      clear ht hb hn
      by_cases hkn : k < rn
      · have hkl : k < V.rs.length := by rw [HRL.out]; exact hkn
        obtain ⟨b, off, rfl, q0, q1, q2, q3⟩ := (HIW.out.keep HB.out).at k hkl
        have k0 : (k : Int) < (rn : Int) := by omega
        obtain ⟨R, hR⟩ : ∃ R, rwD V.rs k = R := ⟨_, rfl⟩
        have HRR : Hid (rwD V.rs k = R) := hR
        rw [hR] at q0 q1 q2 q3
        obtain ⟨gen, lv, kd, pl⟩ := R
        simp only at q0 q1 q2 q3
        obtain ⟨G, hG⟩ : ∃ G, wz.alloc (.cells #[.int .i64 gen, .bool lv, .int .i64 kd, .int .i64 pl] 50) = G := ⟨_, rfl⟩
        have bG : Below wz.heap.size wz G := by rw [← hG]; exact (Below.refl _ wz).alloc (Nat.le_refl _) _
        have rG : G.heap[wz.heap.size]? = some (.cells #[.int .i64 gen, .bool lv, .int .i64 kd, .int .i64 pl] 50 (0, 0)) := by rw [← hG]; exact Go.heap_alloc_new wz _
        have BG : Hid (Below w3.heap.size w3 G) := HB.out.trans (bG.mono HB.out.size)
        have TG : Hid (Tob G w3.heap.size 44 (.slice a n c) (objsU V k)) := HT.out.keep bG
        obtain ⟨ng, hng⟩ : ∃ ng, wz.heap.size = ng := ⟨_, rfl⟩
        rw [hng] at rG
        have e1 : G.cell? ⟨ng, 1, none⟩ = some (.bool lv) := cell_of_row _ _ 1 _ _ _ rG
        clear bG rG hR
        cases lv with
        | false =>
          have NX : Hid (objsU V (k + 1) = objsU V k) := objsU_dead (by rw [HRR.out])
          go_wp2
          go_roundw
          case rel => exact ⟨k + 1, a, n, c, by omega, by congr 1, rfl, by rw [NX.out]; exact HN.out, by rw [NX.out]; exact TG.out, BG.out⟩
          case measure => simp [lenW]; omega
        | true =>
          have NX : Hid (objsU V (k + 1) = objsU V k ++ [objI V k]) := objsU_live (by rw [HRR.out])
          have OB : Hid (AllB (objI V k).b) := blank_all _ _ ((L3.out.vw.bs.all.drop _).take _)
          have CO : Hid (Calls Tryd.prog 39 #[.pointer (some ⟨lb, 0, none⟩), .int .i64 (k : Nat)] G fun e w' => ∃ bg bk ha hk, e = .returned (.agg #[.int .u64 ((objI V k).h : Nat), .int .i64 (objI V k).k, .slice (some ⟨bg, 0, none⟩) (objI V k).b.length bk, .slice ha (objI V k).t.length hk]) ∧ OwnsB w' G.heap.size (some ⟨bg, 0, none⟩) (objI V k).b bk ∧ Oh w' G.heap.size ha (objI V k).t hk ∧ Below G.heap.size G w') := object_any lb ms mi V A nf nr f k G (L3.out.keep BG.out) (HH.out.mono (by decide)) hkl (by rw [HRR.out])
          obtain ⟨O, hO⟩ : ∃ O, objI V k = O := ⟨_, rfl⟩
          rw [hO] at NX OB CO
          obtain ⟨oh, okd, obs, ots⟩ := O
          simp only at OB CO
          obtain ⟨lb1, hlb1⟩ : ∃ lb1, obs.length = lb1 := ⟨_, rfl⟩
          obtain ⟨lt1, hlt1⟩ : ∃ lt1, ots.length = lt1 := ⟨_, rfl⟩
          have HL1 : Hid (obs.length = lb1 ∧ ots.length = lt1) := ⟨hlb1, hlt1⟩
          rw [hlb1, hlt1] at CO
          clear hlb1 hlt1 hO
          go_wp2_with fail
          refine CO.out.mono ?_
          rintro e w5 ⟨bg, bk, ha, hk5, rfl, o1, o2, b5⟩
          have z5 := BG.out.size
          obtain ⟨a', c', w6, run, t6, b6⟩ := Tob.more 44 34 Tryd.undO Tryd.infoO (by decide) (by decide) (Nat.le_trans z5 b5.size) (TG.out.keep b5) HN.out ⟨⟨oh, okd, obs, ots⟩, some ⟨bg, 0, none⟩, bk, ha, hk5⟩ (o1.mono z5) (o2.mono z5) OB.out (by simp) (by omega)
          have RUN : Hid ((Builtin.append_ #[34, 34] 34 #[.slice a n c, .slice (some ⟨w5.heap.size, 0, none⟩) 1 1]).run Tryd.prog (w5.alloc (.cells #[.int .u64 (oh : Nat), .int .i64 okd, .slice (some ⟨bg, 0, none⟩) lb1 bk, .slice ha lt1 hk5] 44)) = .ok (.slice a' (n + 1) c') w6) := by
            have q := run
            unfold Rob.cs at q
            simp only [HL1.out.1, HL1.out.2] at q
            exact q
          have T6 : Hid (Tob w6 w3.heap.size 44 (.slice a' (n + 1) c') (objsU V (k + 1))) := by show Tob _ _ _ _ _; rw [NX.out]; exact t6
          have B6 : Hid (Below w3.heap.size w3 w6) := (BG.out.trans (b5.mono z5)).trans b6
          have N6 : Hid ((objsU V (k + 1)).length = n + 1) := by show _ = _; rw [NX.out, List.length_append, HN.out]; rfl
          clear o1 o2 b5 run t6 b6 z5 e1 q0 q1 q2 q3
          go_wp2_with (at_builtin; refine wpList_run rfl 34 rfl _ _ rfl (.slice a n c) (.slice (some ⟨w5.heap.size, 0, none⟩) 1 1) _ _ rfl rfl RUN.out ?_)
          go_roundw
          case rel => exact ⟨k + 1, a', n + 1, c', by omega, by congr 1, rfl, N6.out, T6.out, B6.out⟩
          case measure => simp [lenW]; omega
      · obtain rfl : k = rn := by omega
        have F : Hid (ObjsP w V 44 (.returned (.slice a n c)) wz) := by
          have e : objsU V k = objsV V := by unfold objsV; rw [HRL.out]
          rw [e] at HT HN
          exact ⟨0, x, HC.out, .inl ⟨rfl, a, n, c, rfl, HN.out, HT.out.mono B3.out.size⟩, B3.out.trans (HB.out.mono B3.out.size)⟩
        go_wp2
        go_ret
        exact F.out
  · have hp : 0 < r := by omega
    have F : Hid (ObjsP w V 44 (.returned (.slice none 0 0)) w3) := ⟨r, x, HC.out, .inr ⟨hr, rfl⟩, B3.out⟩
    clear hc b3 c0 c7 hr
    go_wp2
    go_ret
    exact F.out
end Go.Proofs.YtebmegghojiegaaDoor
