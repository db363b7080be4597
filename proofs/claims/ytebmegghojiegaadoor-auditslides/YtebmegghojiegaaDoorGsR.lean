/- The law's own: objects as the document's answer has them. -/
import Derived.Test.YtebmegghojiegaaDoorBbB
import Derived.Test.YtebmegghojiegaaDoorGsK
namespace Go.Proofs.YtebmegghojiegaaDoor
open Go.RowKit
set_option linter.unusedVariables false
set_option linter.unusedSimpArgs false

/-- A row of objects whose lists lie elsewhere. -/
def Tsh (w0 w : World) (B : Nat) (v : Value) (n : Nat) (os : List Ob) : Prop := ∃ rs : List Rob, rs.map Rob.toOb = os ∧ w.ownsRow B 84 4 v n (rs.flatMap Rob.cs) ∧ ∀ r ∈ rs, IsB w0 r.ba r.b ∧ IsH w0 r.ha r.t ∧ r.t.length ≤ 9223372036854775807
theorem Tsh.rd {w0 w : World} {B : Nat} {a : Option Addr} {n c : Nat} {os : List Ob} (h : Tsh w0 w B (.slice a n c) n os) (b : Bl w0 w) : RdO w a os := by
  obtain ⟨rs, e1, e2, e3⟩ := h
  intro i hi
  have hl : rs.length = os.length := by rw [← e1, List.length_map]
  have hi' : i < rs.length := by omega
  have eo : os[i] = rs[i].toOb := by subst e1; simp
  obtain ⟨c0, c1, c2, c3⟩ := Rob.cs_at rs i hi'
  obtain ⟨r1, r2, r3⟩ := e3 rs[i] (List.getElem_mem hi')
  obtain ⟨h0, ⟨h1, h00⟩ | ⟨g, c', cur, h1, hb, h2, h3, h4, h5, h6⟩⟩ := e2
  · exfalso
    have e : (rs.flatMap Rob.cs).length = rs.length * 4 := by
      clear e1 e3 hl hi' eo c0 c1 c2 c3 r1 r2 r3 h0
      induction rs with
      | nil => rfl
      | cons r rs ih => rw [List.flatMap_cons, List.length_append, ih]; simp [Rob.cs]; omega
    omega
  · cases h1
    have hc : ∀ j v, (rs.flatMap Rob.cs)[j]? = some v → w.cell? ⟨g, j, none⟩ = some v := fun j v hv => by
      have hj : j < n * 4 := by have := (List.getElem?_eq_some_iff.1 hv).1; omega
      rw [cell_of_row _ _ j _ _ _ h2, ← Array.getElem?_toList]
      rw [← h6, List.getElem?_take_of_lt hj] at hv
      exact hv
    refine ⟨g, 0, rs[i].ba, rs[i].bk, rs[i].ha, rs[i].hk, rfl, ?_, ?_, ?_, ?_, ?_, ?_, ?_⟩
    · rw [Nat.zero_add, eo]; exact hc _ _ c0
    · rw [Nat.zero_add, eo]; exact hc _ _ c1
    · rw [Nat.zero_add, eo]; exact hc _ _ c2
    · rw [Nat.zero_add, eo]; exact hc _ _ c3
    · rw [eo]; exact r1.keep b
    · rw [eo]; exact r2.keep b
    · rw [eo]; exact r3
set_option maxRecDepth 20000 in
set_option maxHeartbeats 4000000 in
theorem own_any (a : Option Addr) (n c : Nat) (os : List Ob) (w : World) (h : RdO w a os) (hn : os.length = n) (hz : n ≤ 300) :
    Calls Tryd.prog 16 #[.slice a n c] w fun e w' => ∃ a' c', e = .returned (.slice a' n c') ∧ RdO w' a' os ∧ Below w.heap.size w w' := by
  have H : Hid (RdO w a os) := h
  have HN : Hid (os.length = n) := hn
  clear h hn
  go_enter Tryd.func16, Tryd.ntmps16
  go_wp2_with fail
  go_loopw [3, 8] (fun lv iv wr => ∃ (k : Nat) (av : Option Addr) (cv : Nat), k ≤ n ∧ iv = .int .i64 (k : Nat) ∧ lv = .slice av k cv ∧ Tsh w wr w.heap.size (.slice av k cv) k (os.take k) ∧ Bl w wr) (fun _ iv _ => n - lenW iv)
  case atStart => exact ⟨0, none, 0, Nat.zero_le _, rfl, rfl, ⟨[], rfl, World.ownsRow_nil _ _ _ _, fun r h => by cases h⟩, Bl.refl _⟩
  case round =>
    obtain ⟨k, av, cv, hk, rfl, rfl, ht, hb⟩ := hrel
    rename World => wr
    have HT : Hid (Tsh w wr w.heap.size (.slice av k cv) k (os.take k)) := ht
    have HB : Hid (Bl w wr) := hb
    clear ht hb
    by_cases hkn : k < n
    · have hkl : k < os.length := by rw [HN.out]; exact hkn
      obtain ⟨g, off, ba, bk, ha, hk', ea, q0, q1, q2, q3, hB, hH, hL⟩ := H.out k hkl
      have ET : os.take (k + 1) = os.take k ++ [os[k]] := List.take_succ_eq_append_getElem hkl
      obtain ⟨x, hx⟩ : ∃ x, os[k] = x := ⟨_, rfl⟩
      rw [hx] at q0 q1 q2 q3 hB hH hL ET
      obtain ⟨xh, xk, xb, xt⟩ := x
      simp only at q0 q1 q2 q3 hB hH hL
      subst ea
      have q0 := bcell HB.out q0
      have q1 := bcell HB.out q1
      have q2 := bcell HB.out q2
      have q3 := bcell HB.out q3
      obtain ⟨lb1, hlb1⟩ : ∃ lb1, xb.length = lb1 := ⟨_, rfl⟩
      obtain ⟨lt1, hlt1⟩ : ∃ lt1, xt.length = lt1 := ⟨_, rfl⟩
      rw [hlb1] at q2
      rw [hlt1] at q3
      obtain ⟨D, hD⟩ : ∃ D, wr.alloc (.cells #[.int .u64 (xh : Nat), .int .i64 xk, .slice ba lb1 bk, .slice ha lt1 hk'] 44) = D := ⟨_, rfl⟩
      have bD : Bl wr D := by rw [← hD]; exact (Bl.refl wr).alloc _
      have rD : D.heap[wr.heap.size]? = some (.cells #[.int .u64 (xh : Nat), .int .i64 xk, .slice ba lb1 bk, .slice ha lt1 hk'] 44 (0, 0)) := by rw [← hD]; exact Go.heap_alloc_new wr _
      have BD : Hid (Bl w D) := HB.out.trans bD
      obtain ⟨ng, hng⟩ : ∃ ng, wr.heap.size = ng := ⟨_, rfl⟩
      rw [hng] at rD
      have d0 : D.cell? ⟨ng, 0, none⟩ = some (.int .u64 (xh : Nat)) := cell_of_row _ _ 0 _ _ _ rD
      have d1 : D.cell? ⟨ng, 1, none⟩ = some (.int .i64 xk) := cell_of_row _ _ 1 _ _ _ rD
      have d2 : D.cell? ⟨ng, 2, none⟩ = some (.slice ba lb1 bk) := cell_of_row _ _ 2 _ _ _ rD
      have d3 : D.cell? ⟨ng, 3, none⟩ = some (.slice ha lt1 hk') := cell_of_row _ _ 3 _ _ _ rD
      obtain ⟨rs, e1, e2, e3⟩ := HT.out
      have bX : Bl D (D.alloc (.cells #[.int .u64 (xh : Nat), .int .i64 xk, .slice ba lb1 bk, .slice ha lt1 hk'] 84)) := (Bl.refl D).alloc _
      obtain ⟨a', c', w6, run, o6, u6⟩ := appO_run 84 37 Tryd.undR Tryd.infoR w.heap.size _ (Nat.le_trans (Below.size BD.out) (Below.size bX)) av k cv rs (ownsRow_keepB (ownsRow_keepB e2 bD) bX) D.heap.size ⟨⟨xh, xk, xb, xt⟩, ba, bk, ha, hk'⟩ 84 (by
        have := Go.heap_alloc_new D (.cells #[.int .u64 (xh : Nat), .int .i64 xk, .slice ba lb1 bk, .slice ha lt1 hk'] 84)
        unfold Rob.cs
        simp only [hlb1, hlt1]
        exact this) (by omega)
      have RUN : Hid ((Builtin.append_ #[37, 37] 37 #[.slice av k cv, .slice (some ⟨D.heap.size, 0, none⟩) 1 1]).run Tryd.prog (D.alloc (.cells #[.int .u64 (xh : Nat), .int .i64 xk, .slice ba lb1 bk, .slice ha lt1 hk'] 84)) = .ok (.slice a' (k + 1) c') w6) := run
      have B6 : Hid (Bl w w6) := Below.trans (BD.out.trans bX) (u6.below (fun i e => (row_kind e2 i e).1) (Below.size (BD.out.trans bX)))
      have T6 : Hid (Tsh w w6 w.heap.size (.slice a' (k + 1) c') (k + 1) (os.take (k + 1))) := ⟨rs ++ [⟨⟨xh, xk, xb, xt⟩, ba, bk, ha, hk'⟩], by rw [List.map_append, e1, ET]; rfl, o6, fun r hr => by
        rcases List.mem_append.1 hr with q | q
        · exact e3 r q
        · obtain rfl : r = ⟨⟨xh, xk, xb, xt⟩, ba, bk, ha, hk'⟩ := by simpa using q
          exact ⟨hB, hH, hL⟩⟩
      have k0 : (k : Int) < (n : Int) := by omega
      clear hB hH hL ET hx hlb1 hlt1 bD rD e1 e2 e3 bX run o6 u6 hkl
      go_wp2_with (at_builtin; refine wpList_run rfl 37 rfl _ _ rfl (.slice av k cv) (.slice (some ⟨D.heap.size, 0, none⟩) 1 1) _ _ rfl rfl RUN.out ?_)
      go_roundw
      case rel => exact ⟨k + 1, a', c', by omega, by congr 1, rfl, T6.out, B6.out⟩
      case measure => simp [lenW]; omega
    · obtain rfl : k = n := by omega
      have F : Hid (RdO wr av os) := by
        have := HT.out
        rw [List.take_of_length_le (Nat.le_of_eq HN.out)] at this
        exact this.rd HB.out
      go_wp2
      go_ret
      exact ⟨av, cv, rfl, F.out, HB.out⟩
end Go.Proofs.YtebmegghojiegaaDoor

/- The document's example of a view. -/
namespace Go.Proofs.YtebmegghojiegaaDoor
open Go.RowKit
set_option linter.unusedVariables false
set_option linter.unusedSimpArgs false

def exV (W : Int) : Vw := ⟨256, 1, [⟨16, [0]⟩], [⟨1, true, 0, 0⟩, ⟨1, true, 0, 16⟩], [⟨0, 0, 0, [0, 1]⟩], overR (List.replicate 256 0) 0 (putL 8 W)⟩
def exA (b : Nat) : Va := ⟨some ⟨b + 1 + 1, 0, none⟩, some ⟨b + 1 + 1 + 1, 0, none⟩, some ⟨b + 1 + 1 + 1 + 1 + 1, 0, none⟩, some ⟨b + 1 + 1 + 1 + 1 + 1 + 1, 0, none⟩, 1, 2, 1, 256, 1, 2, 1, 256⟩
theorem ex_rv {w : World} {b : Nat} {W : Int} (r1 : w.heap[b + 1]? = some (.cells #[.int .i64 0] 3 (0, 0))) (r2 : w.heap[b + 1 + 1]? = some (.cells #[.int .i64 16, .slice (some ⟨b + 1, 0, none⟩) 1 1] 53 (0, 0)))
    (r3 : w.heap[b + 1 + 1 + 1]? = some (.cells #[.int .i64 1, .bool true, .int .i64 0, .int .i64 0, .int .i64 1, .bool true, .int .i64 0, .int .i64 16] 50 (0, 0))) (r4 : w.heap[b + 1 + 1 + 1 + 1]? = some (.cells #[.int .i64 0, .int .i64 1] 3 (0, 0)))
    (r5 : w.heap[b + 1 + 1 + 1 + 1 + 1]? = some (.cells #[.int .i64 0, .int .i64 0, .int .i64 0, .slice (some ⟨b + 1 + 1 + 1 + 1, 0, none⟩) 2 2] 58 (0, 0))) (r6 : RowB w (b + 1 + 1 + 1 + 1 + 1 + 1) (overR (List.replicate 256 0) 0 (putL 8 W))) :
    Rv w (exV W) (exA b) := by
  have bl : (overR (List.replicate 256 0) 0 (putL 8 W)).length = 256 := by rw [over_len (by rw [putL_len, List.length_replicate]; decide), List.length_replicate]
  refine ⟨rfl, rfl, rfl, bl, fun i hi => ?_, .inr ⟨b + 1 + 1 + 1, 0, rfl, hlt r3, fun i hi => ?_⟩, fun i hi => ?_, r6.isB (over_all (all_noughts _) (putL_byte 8 W)), (show i64 256 by unfold i64; omega), (show i64 1 by unfold i64; omega), fun t ht => ?_, fun r hr => ?_, by show 1 ≤ 64; omega, by show 2 ≤ 300; omega, by show 1 ≤ 64; omega, by show (overR (List.replicate 256 0) 0 (putL 8 W)).length ≤ 16384; omega, ⟨Nat.le_refl _, by show 1 ≤ 9223372036854775807; omega⟩, ⟨Nat.le_refl _, by show 256 ≤ 9223372036854775807; omega⟩⟩
  · have hi : i < 1 := hi
    obtain rfl : i = 0 := by omega
    refine ⟨b + 1 + 1, 0, some ⟨b + 1, 0, none⟩, 1, rfl, cell_of_row _ _ 0 _ _ _ r2, cell_of_row _ _ 1 _ _ _ r2, ⟨by intro x hx; have hx : x ∈ ([0] : List Int) := hx; simp at hx; omega, .inr ⟨b + 1, 0, rfl, hlt r1, fun j hj => ?_⟩⟩, (fun e => by cases e), by show 1 ≤ maxLen; unfold maxLen; omega⟩
    have hj : j < 1 := hj
    obtain rfl : j = 0 := by omega
    exact cell_of_row _ _ 0 _ _ _ r1
  · have hi : i < 2 := hi
    rcases i with _ | _ | i
    · exact ⟨cell_of_row _ _ 0 _ _ _ r3, cell_of_row _ _ 1 _ _ _ r3, cell_of_row _ _ 2 _ _ _ r3, cell_of_row _ _ 3 _ _ _ r3⟩
    · exact ⟨cell_of_row _ _ 4 _ _ _ r3, cell_of_row _ _ 5 _ _ _ r3, cell_of_row _ _ 6 _ _ _ r3, cell_of_row _ _ 7 _ _ _ r3⟩
    · omega
  · have hi : i < 1 := hi
    obtain rfl : i = 0 := by omega
    refine ⟨b + 1 + 1 + 1 + 1 + 1, 0, some ⟨b + 1 + 1 + 1 + 1, 0, none⟩, 2, rfl, cell_of_row _ _ 0 _ _ _ r5, cell_of_row _ _ 1 _ _ _ r5, cell_of_row _ _ 2 _ _ _ r5, cell_of_row _ _ 3 _ _ _ r5, ⟨by intro x hx; have hx : x ∈ ([0, 1] : List Int) := hx; simp at hx; omega, .inr ⟨b + 1 + 1 + 1 + 1, 0, rfl, hlt r4, fun j hj => ?_⟩⟩, by show 2 ≤ maxLen; unfold maxLen; omega⟩
    have hj : j < 2 := hj
    rcases j with _ | _ | j
    · exact cell_of_row _ _ 0 _ _ _ r4
    · exact cell_of_row _ _ 1 _ _ _ r4
    · omega
  · have ht : t ∈ ([⟨0, 0, 0, [0, 1]⟩] : List Td) := ht
    simp at ht
    subst ht
    unfold i64; simp
  · have hr : r ∈ ([⟨1, true, 0, 0⟩, ⟨1, true, 0, 16⟩] : List HRw) := hr
    simp at hr
    rcases hr with rfl | rfl <;> (unfold i64; simp)
set_option maxRecDepth 20000 in
set_option maxHeartbeats 4000000 in
theorem example_any (W : Int) (w : World) (h0 : 0 ≤ W) (h1 : W ≤ 18446744073709551615) :
    Calls Tryd.prog 21 #[.int .u64 W] w fun e w' => e = .returned (.agg #[.int .i64 256, .int .i64 1, .slice (some ⟨w.heap.size + 1 + 1, 0, none⟩) 1 1, .slice (some ⟨w.heap.size + 1 + 1 + 1, 0, none⟩) 2 2, .slice (some ⟨w.heap.size + 1 + 1 + 1 + 1 + 1, 0, none⟩) 1 1, .slice (some ⟨w.heap.size + 1 + 1 + 1 + 1 + 1 + 1, 0, none⟩) 256 256]) ∧ Rv w' (exV W) (exA w.heap.size) ∧ Below w.heap.size w w' := by
  have MK : ∀ v : World, (Instr.makeSlice 25 (.int .i64 256) (.int .i64 256)).run Tryd.prog v = .ok (.slice (some ⟨v.heap.size, 0, none⟩) 256 256) (v.alloc (.cells (cellsB (List.replicate 256 0)).toArray 5)) := fun v => make_B v 256 (by decide)
  obtain ⟨CB, hCB⟩ : ∃ CB, (cellsB (List.replicate 256 0)).toArray = CB := ⟨_, rfl⟩
  rw [hCB] at MK
  obtain ⟨X1, e1⟩ : ∃ X1, w.alloc (.cells #[.int .i64 0, .int .i64 0, .slice none 0 0, .slice none 0 0, .slice none 0 0, .slice none 0 0] 27) = X1 := ⟨_, rfl⟩
  obtain ⟨X2, e2⟩ : ∃ X2, X1.alloc (.cells #[.int .i64 0] 3) = X2 := ⟨_, rfl⟩
  obtain ⟨X3, e3⟩ : ∃ X3, X2.alloc (.cells #[.int .i64 16, .slice (some ⟨w.heap.size + 1, 0, none⟩) 1 1] 53) = X3 := ⟨_, rfl⟩
  obtain ⟨X4, e4⟩ : ∃ X4, X3.alloc (.cells #[.int .i64 1, .bool true, .int .i64 0, .int .i64 0, .int .i64 1, .bool true, .int .i64 0, .int .i64 16] 50) = X4 := ⟨_, rfl⟩
  obtain ⟨X5, e5⟩ : ∃ X5, X4.alloc (.cells #[.int .i64 0, .int .i64 1] 3) = X5 := ⟨_, rfl⟩
  obtain ⟨X6, e6⟩ : ∃ X6, X5.alloc (.cells #[.int .i64 0, .int .i64 0, .int .i64 0, .slice (some ⟨w.heap.size + 1 + 1 + 1 + 1, 0, none⟩) 2 2] 58) = X6 := ⟨_, rfl⟩
  obtain ⟨X7, e7⟩ : ∃ X7, X6.alloc (.cells CB 5) = X7 := ⟨_, rfl⟩
  obtain ⟨X8, e8⟩ : ∃ X8, X7.alloc (.cells #[.int .i64 256, .int .i64 1, .slice (some ⟨w.heap.size + 1 + 1, 0, none⟩) 1 1, .slice (some ⟨w.heap.size + 1 + 1 + 1, 0, none⟩) 2 2, .slice (some ⟨w.heap.size + 1 + 1 + 1 + 1 + 1, 0, none⟩) 1 1, .slice (some ⟨w.heap.size + 1 + 1 + 1 + 1 + 1 + 1, 0, none⟩) 256 256] 27) = X8 := ⟨_, rfl⟩
  have z1 : X1.heap.size = w.heap.size + 1 := by rw [← e1]; simp
  have z2 : X2.heap.size = w.heap.size + 1 + 1 := by rw [← e2]; simp [z1]
  have z3 : X3.heap.size = w.heap.size + 1 + 1 + 1 := by rw [← e3]; simp [z2]
  have z4 : X4.heap.size = w.heap.size + 1 + 1 + 1 + 1 := by rw [← e4]; simp [z3]
  have z5 : X5.heap.size = w.heap.size + 1 + 1 + 1 + 1 + 1 := by rw [← e5]; simp [z4]
  have z6 : X6.heap.size = w.heap.size + 1 + 1 + 1 + 1 + 1 + 1 := by rw [← e6]; simp [z5]
  have z7 : X7.heap.size = w.heap.size + 1 + 1 + 1 + 1 + 1 + 1 + 1 := by rw [← e7]; simp [z6]
  have l8 : Bl X7 X8 := by rw [← e8]; exact (Bl.refl _).alloc _
  have l7 : Bl X6 X8 := Bl.trans (by rw [← e7]; exact (Bl.refl _).alloc _) l8
  have l6 : Bl X5 X8 := Bl.trans (by rw [← e6]; exact (Bl.refl _).alloc _) l7
  have l5 : Bl X4 X8 := Bl.trans (by rw [← e5]; exact (Bl.refl _).alloc _) l6
  have l4 : Bl X3 X8 := Bl.trans (by rw [← e4]; exact (Bl.refl _).alloc _) l5
  have l3 : Bl X2 X8 := Bl.trans (by rw [← e3]; exact (Bl.refl _).alloc _) l4
  have l2 : Bl X1 X8 := Bl.trans (by rw [← e2]; exact (Bl.refl _).alloc _) l3
  have l1 : Bl w X8 := Bl.trans (by rw [← e1]; exact (Bl.refl _).alloc _) l2
  have r0 : X8.heap[w.heap.size]? = some (.cells zV 27 (0, 0)) := l2.row (by rw [← e1]; exact Go.heap_alloc_new w _)
  have r1 : X8.heap[w.heap.size + 1]? = some (.cells #[.int .i64 0] 3 (0, 0)) := l3.row (by rw [← e2, ← z1]; exact Go.heap_alloc_new X1 _)
  have r2 : X8.heap[w.heap.size + 1 + 1]? = some (.cells #[.int .i64 16, .slice (some ⟨w.heap.size + 1, 0, none⟩) 1 1] 53 (0, 0)) := l4.row (by rw [← e3, ← z2]; exact Go.heap_alloc_new X2 _)
  have r3 : X8.heap[w.heap.size + 1 + 1 + 1]? = some (.cells #[.int .i64 1, .bool true, .int .i64 0, .int .i64 0, .int .i64 1, .bool true, .int .i64 0, .int .i64 16] 50 (0, 0)) := l5.row (by rw [← e4, ← z3]; exact Go.heap_alloc_new X3 _)
  have r4 : X8.heap[w.heap.size + 1 + 1 + 1 + 1]? = some (.cells #[.int .i64 0, .int .i64 1] 3 (0, 0)) := l6.row (by rw [← e5, ← z4]; exact Go.heap_alloc_new X4 _)
  have r5 : X8.heap[w.heap.size + 1 + 1 + 1 + 1 + 1]? = some (.cells #[.int .i64 0, .int .i64 0, .int .i64 0, .slice (some ⟨w.heap.size + 1 + 1 + 1 + 1, 0, none⟩) 2 2] 58 (0, 0)) := l7.row (by rw [← e6, ← z5]; exact Go.heap_alloc_new X5 _)
  have r6 : RowB X8 (w.heap.size + 1 + 1 + 1 + 1 + 1 + 1) (List.replicate 256 0) := l8.row (by rw [← e7, ← z6, hCB]; exact Go.heap_alloc_new X6 _)
  have r7 : X8.heap[w.heap.size + 1 + 1 + 1 + 1 + 1 + 1 + 1]? = some (.cells #[.int .i64 256, .int .i64 1, .slice (some ⟨w.heap.size + 1 + 1, 0, none⟩) 1 1, .slice (some ⟨w.heap.size + 1 + 1 + 1, 0, none⟩) 2 2, .slice (some ⟨w.heap.size + 1 + 1 + 1 + 1 + 1, 0, none⟩) 1 1, .slice (some ⟨w.heap.size + 1 + 1 + 1 + 1 + 1 + 1, 0, none⟩) 256 256] 27 (0, 0)) := by rw [← e8, ← z7]; exact Go.heap_alloc_new X7 _
  have E1 : Hid _ := e1
  have E2 : Hid _ := e2
  have E3 : Hid _ := e3
  have E4 : Hid _ := e4
  have E5 : Hid _ := e5
  have E6 : Hid _ := e6
  have E7 : Hid _ := e7
  have E8 : Hid _ := e8
  have R0 : Hid _ := r0
  have R1 : Hid _ := r1
  have R2 : Hid _ := r2
  have R3 : Hid _ := r3
  have R4 : Hid _ := r4
  have R5 : Hid _ := r5
  have R6 : Hid _ := r6
  have R7 : Hid _ := r7
  have L1 : Hid (Bl w X8) := l1
  clear e1 e2 e3 e4 e5 e6 e7 e8 z1 z2 z3 z4 z5 z6 z7 l1 l2 l3 l4 l5 l6 l7 l8 r0 r1 r2 r3 r4 r5 r6 r7 hCB
  go_enter Tryd.func21, Tryd.ntmps21
  go_wp2_with fail
  rw [E1.out, E2.out, E3.out, E4.out, E5.out, E6.out, E7.out, E8.out]
  refine (lay_any (w.heap.size + 1 + 1 + 1 + 1 + 1 + 1) 256 256 0 (List.replicate 256 0) W X8 R6.out (by simp) (by decide) (by decide) h0 h1).mono ?_
  rintro e w9 ⟨rfl, rb, tg⟩
  obtain ⟨b, hb⟩ : ∃ b, w.heap.size = b := ⟨_, rfl⟩
  have HB : Hid (w.heap.size = b) := hb
  have kp : ∀ (k : Nat) (o : Obj), X8.heap[k]? = some o → k ≠ w.heap.size + 1 + 1 + 1 + 1 + 1 + 1 → w9.heap[k]? = some o := fun k o hk hn => by rw [tg.block k (hlt hk) hn]; exact hk
  have q0 := kp _ _ R0.out (by omega)
  have q7 := kp _ _ R7.out (by omega)
  have on := layV_only w9 b (.int .i64 256) (.int .i64 1) (.slice (some ⟨b + 1 + 1, 0, none⟩) 1 1) (.slice (some ⟨b + 1 + 1 + 1, 0, none⟩) 2 2) (.slice (some ⟨b + 1 + 1 + 1 + 1 + 1, 0, none⟩) 1 1) (.slice (some ⟨b + 1 + 1 + 1 + 1 + 1 + 1, 0, none⟩) 256 256)
  have kq : ∀ (k : Nat) (o : Obj), w9.heap[k]? = some o → k ≠ b → (layV w9 b (.int .i64 256) (.int .i64 1) (.slice (some ⟨b + 1 + 1, 0, none⟩) 1 1) (.slice (some ⟨b + 1 + 1 + 1, 0, none⟩) 2 2) (.slice (some ⟨b + 1 + 1 + 1 + 1 + 1, 0, none⟩) 1 1) (.slice (some ⟨b + 1 + 1 + 1 + 1 + 1 + 1, 0, none⟩) 256 256)).heap[k]? = some o := fun k o hk hn => by rw [on.block k hn]; exact hk
  have F0 := kq _ _ (kp _ _ R1.out (by omega)) (by omega)
  have F2 := kq _ _ (kp _ _ R2.out (by omega)) (by omega)
  have F3 := kq _ _ (kp _ _ R3.out (by omega)) (by omega)
  have F4 := kq _ _ (kp _ _ R4.out (by omega)) (by omega)
  have F5 := kq _ _ (kp _ _ R5.out (by omega)) (by omega)
  have F6 := kq _ _ rb (by omega)
  rw [hb] at F0 F2 F3 F4 F5 F6 q0 q7
  have FR : Hid (Rv _ (exV W) (exA b)) := ex_rv F0 F2 F3 F4 F5 F6
  have FB : Hid (Below w.heap.size w (layV w9 b (.int .i64 256) (.int .i64 1) (.slice (some ⟨b + 1 + 1, 0, none⟩) 1 1) (.slice (some ⟨b + 1 + 1 + 1, 0, none⟩) 2 2) (.slice (some ⟨b + 1 + 1 + 1 + 1 + 1, 0, none⟩) 1 1) (.slice (some ⟨b + 1 + 1 + 1 + 1 + 1 + 1, 0, none⟩) 256 256))) := Below.trans (Below.trans L1.out (tg.below (by omega) (Below.size L1.out))) (on.below (by omega))
  obtain ⟨y0, y1, y2, y3, y4, y5⟩ := six q0
  obtain ⟨f0, f1, f2, f3, f4, f5⟩ := sixF q0
  obtain ⟨c0, c1, c2, c3, c4, c5⟩ := six q7
  obtain ⟨k0, k1, k2, k3, k4, k5⟩ := six (layV_row (a := .int .i64 256) (b := .int .i64 1) (c := .slice (some ⟨b + 1 + 1, 0, none⟩) 1 1) (d := .slice (some ⟨b + 1 + 1 + 1, 0, none⟩) 2 2) (e := .slice (some ⟨b + 1 + 1 + 1 + 1 + 1, 0, none⟩) 1 1) (f := .slice (some ⟨b + 1 + 1 + 1 + 1 + 1 + 1, 0, none⟩) 256 256) q0)
  have LV : Hid (layV w9 b (.int .i64 256) (.int .i64 1) (.slice (some ⟨b + 1 + 1, 0, none⟩) 1 1) (.slice (some ⟨b + 1 + 1 + 1, 0, none⟩) 2 2) (.slice (some ⟨b + 1 + 1 + 1 + 1 + 1, 0, none⟩) 1 1) (.slice (some ⟨b + 1 + 1 + 1 + 1 + 1 + 1, 0, none⟩) 256 256) = (((((w9.setCell ⟨b, 0, none⟩ (.int .i64 256)).setCell ⟨b, 1, none⟩ (.int .i64 1)).setCell ⟨b, 2, none⟩ (.slice (some ⟨b + 1 + 1, 0, none⟩) 1 1)).setCell ⟨b, 3, none⟩ (.slice (some ⟨b + 1 + 1 + 1, 0, none⟩) 2 2)).setCell ⟨b, 4, none⟩ (.slice (some ⟨b + 1 + 1 + 1 + 1 + 1, 0, none⟩) 1 1)).setCell ⟨b, 5, none⟩ (.slice (some ⟨b + 1 + 1 + 1 + 1 + 1 + 1, 0, none⟩) 256 256)) := rfl
  obtain ⟨LW, hLW⟩ : ∃ LW, layV w9 b (.int .i64 256) (.int .i64 1) (.slice (some ⟨b + 1 + 1, 0, none⟩) 1 1) (.slice (some ⟨b + 1 + 1 + 1, 0, none⟩) 2 2) (.slice (some ⟨b + 1 + 1 + 1 + 1 + 1, 0, none⟩) 1 1) (.slice (some ⟨b + 1 + 1 + 1 + 1 + 1 + 1, 0, none⟩) 256 256) = LW := ⟨_, rfl⟩
  rw [hLW] at k0 k1 k2 k3 k4 k5 FR FB LV
  clear rb tg kp q0 q7 on kq F0 F2 F3 F4 F5 F6 hLW E1 E2 E3 E4 E5 E6 E7 E8 MK
  rw [hb]
  go_wp2_with fail
  (try rw [hb])
  rw [← LV.out]
  refine bodyPost_ret (v := .agg #[.int .i64 256, .int .i64 1, .slice (some ⟨b + 1 + 1, 0, none⟩) 1 1, .slice (some ⟨b + 1 + 1 + 1, 0, none⟩) 2 2, .slice (some ⟨b + 1 + 1 + 1 + 1 + 1, 0, none⟩) 1 1, .slice (some ⟨b + 1 + 1 + 1 + 1 + 1 + 1, 0, none⟩) 256 256]) (by simp [results, Tryd.results21, go_sem, k0, k1, k2, k3, k4, k5]) rfl ⟨rfl, FR.out, by first | exact FB.out | (rw [← HB.out]; exact FB.out) | (have := FB.out; rw [HB.out] at this; exact this)⟩
/-- The two examples: one is sound, of the other a field leads between objects. -/
theorem ex_272 : Hold (exV 272) 7 := by
  have h : (List.range 7).all (fun k => (List.range (ruN (exV 272) k)).all (fun i => ruF (exV 272) k i)) = true := by decide +kernel
  intro k hk i hi
  exact List.all_eq_true.1 (List.all_eq_true.1 h k (List.mem_range.2 hk)) i (List.mem_range.2 hi)
theorem ex_273 : ChkR (exV 273) 7 0 := by
  have h : (List.range 6).all (fun k => (List.range (ruN (exV 273) k)).all (fun i => ruF (exV 273) k i)) = true := by decide +kernel
  refine .inr ⟨6, 0, by decide, by decide, rfl, rfl, by decide +kernel, fun k hk => by omega, fun k hk i hi => ?_⟩
  exact List.all_eq_true.1 (List.all_eq_true.1 h k (List.mem_range.2 hk)) i (List.mem_range.2 hi)
theorem ex_objs : (objsV (exV 272)).map (·.t) = [[65538], [0]] := by decide +kernel
end Go.Proofs.YtebmegghojiegaaDoor
