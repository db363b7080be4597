/- The law's own: objects as the document's answer has them. -/
import Derived.Test.YtebmegghojiegaaDoorBbB
import Derived.Test.YtebmegghojiegaaDoorGsK
namespace Go.Proofs.YtebmegghojiegaaDoor
open Go.RowKit
set_option linter.unusedVariables false
set_option linter.unusedSimpArgs false

/-- A row of objects whose lists lie elsewhere. -/
def Tsh (w0 w : World) (B : Nat) (v : Value) (n : Nat) (os : List Ob) : Prop := ∃ rs : List Rob, rs.map Rob.toOb = os ∧ w.ownsRow B 84 4 v n (rs.flatMap Rob.cs) ∧ ∀ r ∈ rs, IsB w0 r.ba r.b ∧ IsH w0 r.ha r.t ∧ r.t.length ≤ 9223372036854775807
theorem Tsh.rd {w0 w : World} {B : Nat} {a : Option Addr} {n c : Nat} {os : List Ob} (h : Tsh w0 w B (.slice a n c) n os) (b : Bl w0 w) : RdO w a os := by
  obtain ⟨rs, e1, e2, e3⟩ := h
  intro i hi
  have hl : rs.length = os.length := by rw [← e1, List.length_map]
  have hi' : i < rs.length := by omega
  have eo : os[i] = rs[i].toOb := by subst e1; simp
  obtain ⟨c0, c1, c2, c3⟩ := Rob.cs_at rs i hi'
  obtain ⟨r1, r2, r3⟩ := e3 rs[i] (List.getElem_mem hi')
  obtain ⟨h0, ⟨h1, h00⟩ | ⟨g, c', cur, h1, hb, h2, h3, h4, h5, h6⟩⟩ := e2
  · exfalso
    have e : (rs.flatMap Rob.cs).length = rs.length * 4 := by
      clear e1 e3 hl hi' eo c0 c1 c2 c3 r1 r2 r3 h0
      induction rs with
      | nil => rfl
      | cons r rs ih => rw [List.flatMap_cons, List.length_append, ih]; simp [Rob.cs]; omega
    omega
  · cases h1
    have hc : ∀ j v, (rs.flatMap Rob.cs)[j]? = some v → w.cell? ⟨g, j, none⟩ = some v := fun j v hv => by
      have hj : j < n * 4 := by have := (List.getElem?_eq_some_iff.1 hv).1; omega
      rw [cell_of_row _ _ j _ _ _ h2, ← Array.getElem?_toList]
      rw [← h6, List.getElem?_take_of_lt hj] at hv
      exact hv
    refine ⟨g, 0, rs[i].ba, rs[i].bk, rs[i].ha, rs[i].hk, rfl, ?_, ?_, ?_, ?_, ?_, ?_, ?_⟩
    · rw [Nat.zero_add, eo]; exact hc _ _ c0
    · rw [Nat.zero_add, eo]; exact hc _ _ c1
    · rw [Nat.zero_add, eo]; exact hc _ _ c2
    · rw [Nat.zero_add, eo]; exact hc _ _ c3
    · rw [eo]; exact r1.keep b
    · rw [eo]; exact r2.keep b
    · rw [eo]; exact r3
set_option maxRecDepth 20000 in
set_option maxHeartbeats 4000000 in
theorem own_any (a : Option Addr) (n c : Nat) (os : List Ob) (w : World) (h : RdO w a os) (hn : os.length = n) (hz : n ≤ 300) :
    Calls Tryd.prog 16 #[.slice a n c] w fun e w' => ∃ a' c', e = .returned (.slice a' n c') ∧ RdO w' a' os ∧ Below w.heap.size w w' := by
  have H : Hid (RdO w a os) := h
  have HN : Hid (os.length = n) := hn
  clear h hn
  go_enter Tryd.func16, Tryd.ntmps16
  go_wp2_with fail
  go_loopw [3, 8] (fun lv iv wr => ∃ (k : Nat) (av : Option Addr) (cv : Nat), k ≤ n ∧ iv = .int .i64 (k : Nat) ∧ lv = .slice av k cv ∧ Tsh w wr w.heap.size (.slice av k cv) k (os.take k) ∧ Bl w wr) (fun _ iv _ => n - lenW iv)
  case atStart => exact ⟨0, none, 0, Nat.zero_le _, rfl, rfl, ⟨[], rfl, World.ownsRow_nil _ _ _ _, fun r h => by cases h⟩, Bl.refl _⟩
  case round =>
    obtain ⟨k, av, cv, hk, rfl, rfl, ht, hb⟩ := hrel
    rename World => wr
    have HT : Hid (Tsh w wr w.heap.size (.slice av k cv) k (os.take k)) := ht
    have HB : Hid (Bl w wr) := hb
    clear ht hb
    by_cases hkn : k < n
    · have hkl : k < os.length := by rw [HN.out]; exact hkn
      obtain ⟨g, off, ba, bk, ha, hk', ea, q0, q1, q2, q3, hB, hH, hL⟩ := H.out k hkl
      have ET : os.take (k + 1) = os.take k ++ [os[k]] := List.take_succ_eq_append_getElem hkl
      obtain ⟨x, hx⟩ : ∃ x, os[k] = x := ⟨_, rfl⟩
      rw [hx] at q0 q1 q2 q3 hB hH hL ET
      obtain ⟨xh, xk, xb, xt⟩ := x
      simp only at q0 q1 q2 q3 hB hH hL
      subst ea
      have q0 := bcell HB.out q0
      have q1 := bcell HB.out q1
      have q2 := bcell HB.out q2
      have q3 := bcell HB.out q3
      obtain ⟨lb1, hlb1⟩ : ∃ lb1, xb.length = lb1 := ⟨_, rfl⟩
      obtain ⟨lt1, hlt1⟩ : ∃ lt1, xt.length = lt1 := ⟨_, rfl⟩
      rw [hlb1] at q2
      rw [hlt1] at q3
      obtain ⟨D, hD⟩ : ∃ D, wr.alloc (.cells #[.int .u64 (xh : Nat), .int .i64 xk, .slice ba lb1 bk, .slice ha lt1 hk'] 44) = D := ⟨_, rfl⟩
      have bD : Bl wr D := by rw [← hD]; exact (Bl.refl wr).alloc _
      have rD : D.heap[wr.heap.size]? = some (.cells #[.int .u64 (xh : Nat), .int .i64 xk, .slice ba lb1 bk, .slice ha lt1 hk'] 44 (0, 0)) := by rw [← hD]; exact Go.heap_alloc_new wr _
      have BD : Hid (Bl w D) := HB.out.trans bD
      obtain ⟨ng, hng⟩ : ∃ ng, wr.heap.size = ng := ⟨_, rfl⟩
      rw [hng] at rD
      have d0 : D.cell? ⟨ng, 0, none⟩ = some (.int .u64 (xh : Nat)) := cell_of_row _ _ 0 _ _ _ rD
      have d1 : D.cell? ⟨ng, 1, none⟩ = some (.int .i64 xk) := cell_of_row _ _ 1 _ _ _ rD
      have d2 : D.cell? ⟨ng, 2, none⟩ = some (.slice ba lb1 bk) := cell_of_row _ _ 2 _ _ _ rD
      have d3 : D.cell? ⟨ng, 3, none⟩ = some (.slice ha lt1 hk') := cell_of_row _ _ 3 _ _ _ rD
      obtain ⟨rs, e1, e2, e3⟩ := HT.out
      have bX : Bl D (D.alloc (.cells #[.int .u64 (xh : Nat), .int .i64 xk, .slice ba lb1 bk, .slice ha lt1 hk'] 84)) := (Bl.refl D).alloc _
      obtain ⟨a', c', w6, run, o6, u6⟩ := appO_run 84 37 Tryd.undR Tryd.infoR w.heap.size _ (Nat.le_trans (Below.size BD.out) (Below.size bX)) av k cv rs (ownsRow_keepB (ownsRow_keepB e2 bD) bX) D.heap.size ⟨⟨xh, xk, xb, xt⟩, ba, bk, ha, hk'⟩ 84 (by
        have := Go.heap_alloc_new D (.cells #[.int .u64 (xh : Nat), .int .i64 xk, .slice ba lb1 bk, .slice ha lt1 hk'] 84)
        unfold Rob.cs
        simp only [hlb1, hlt1]
        exact this) (by omega)
      have RUN : Hid ((Builtin.append_ #[37, 37] 37 #[.slice av k cv, .slice (some ⟨D.heap.size, 0, none⟩) 1 1]).run Tryd.prog (D.alloc (.cells #[.int .u64 (xh : Nat), .int .i64 xk, .slice ba lb1 bk, .slice ha lt1 hk'] 84)) = .ok (.slice a' (k + 1) c') w6) := run
      have B6 : Hid (Bl w w6) := Below.trans (BD.out.trans bX) (u6.below (fun i e => (row_kind e2 i e).1) (Below.size (BD.out.trans bX)))
      have T6 : Hid (Tsh w w6 w.heap.size (.slice a' (k + 1) c') (k + 1) (os.take (k + 1))) := ⟨rs ++ [⟨⟨xh, xk, xb, xt⟩, ba, bk, ha, hk'⟩], by rw [List.map_append, e1, ET]; rfl, o6, fun r hr => by
        rcases List.mem_append.1 hr with q | q
        · exact e3 r q
        · obtain rfl : r = ⟨⟨xh, xk, xb, xt⟩, ba, bk, ha, hk'⟩ := by simpa using q
          exact ⟨hB, hH, hL⟩⟩
      have k0 : (k : Int) < (n : Int) := by omega
      clear hB hH hL ET hx hlb1 hlt1 bD rD e1 e2 e3 bX run o6 u6 hkl
      go_wp2_with (at_builtin; refine wpList_run rfl 37 rfl _ _ rfl (.slice av k cv) (.slice (some ⟨D.heap.size, 0, none⟩) 1 1) _ _ rfl rfl RUN.out ?_)
      go_roundw
      case rel => exact ⟨k + 1, a', c', by omega, by congr 1, rfl, T6.out, B6.out⟩
      case measure => simp [lenW]; omega
    · obtain rfl : k = n := by omega
      have F : Hid (RdO wr av os) := by
        have := HT.out
        rw [List.take_of_length_le (Nat.le_of_eq HN.out)] at this
        exact this.rd HB.out
      go_wp2
      go_ret
      exact ⟨av, cv, rfl, F.out, HB.out⟩
end Go.Proofs.YtebmegghojiegaaDoor
