/- Layer 15: HdA again -/
import Derived.Test.YtgdjlopnhecmjaaGreatDoorGzBA
import Derived.Test.YtgdjlopnhecmjaaGreatDoorRows
import Derived.WalkKit
import Derived.WalkLawsBesides
import Derived.Below
import Derived.ProofKit
import Derived.OpenShut
import Derived.ChangeOld
import Derived.SizedLaws
import Derived.OwnWalk
import Derived.WalkSmall
import Derived.Laws.AppendOwnNone
import Derived.Laws.IdiomStrings
import Derived.Laws.IdiomCopy
import Derived.Laws.CopyRow
import Derived.Laws.MakeOwn
import Derived.Maps.AppendAt
import Derived.Deep.MidRow
import Derived.Deep.WholeRow
import Derived.Deep.OwnRows
import Derived.Deep.RegionHeld3
import Derived.Deep.RegionLaw
import Derived.RegionTactic
import Derived.BigQuiet
import Derived.Lib.AppendZerosOnto
import Derived.Lib.SmallJoins
import Derived.Lib.BitFns
import Derived.Test.YtgdjlopnhecmjaaGreatDoorGzAJ
import Derived.Test.YtgdjlopnhecmjaaGreatDoorGzAL
namespace Go.Proofs.YtgdjlopnhecmjaaGreatDoor
open Go.RowKit
set_option linter.unusedVariables false
set_option maxRecDepth 4000
theorem hcellsW_set : ∀ (l : List HRw) (i : Nat) (r : HRw), i < l.length → ((((cellsW l).set (i * 4) (.int .i64 r.gen)).set (i * 4 + 1) (.bool r.live)).set (i * 4 + 2) (.int .i64 r.kind)).set (i * 4 + 3) (.int .i64 r.pl) = cellsW (l.set i r)
  | x :: l, 0, r, h => by simp [cellsW]
  | x :: l, i + 1, r, h => by
    have := hcellsW_set l i r (by simpa using h)
    rw [show (i + 1) * 4 = i * 4 + 4 from by omega, show i * 4 + 4 + 1 = i * 4 + 1 + 4 from by omega, show i * 4 + 4 + 2 = i * 4 + 2 + 4 from by omega, show i * 4 + 4 + 3 = i * 4 + 3 + 4 from by omega]
    simp [cellsW, this]
theorem Ow.isWH {w : World} {B : Nat} {a : Option Addr} {l : List HRw} {c : Nat} (h : Ow w B a l c) : IsW w a l := by
  have h' := h
  obtain ⟨_, ⟨h1, h2⟩ | ⟨g, c', cur, h1, hb, h2, _⟩⟩ := h
  · exact .inl (List.eq_nil_of_length_eq_zero h2)
  · cases h1
    refine .inr ⟨g, 0, rfl, hlt h2, fun i hi => ?_⟩
    obtain ⟨g', e, _, _, k⟩ := h'.cells i hi
    cases e
    rw [Nat.zero_add]; exact k
theorem hhowns_form {w : World} {base n s : Nat} {e : TypeId} {v : Value} {xs : List Value} (h : w.ownsRow base e s v n xs) : ∃ a cap, v = .slice a n cap := by
  obtain ⟨_, ⟨rfl, rfl⟩ | ⟨g, c', cur, rfl, _⟩⟩ := h
  · exact ⟨_, _, rfl⟩
  · exact ⟨_, _, rfl⟩
/-- Rows appended to rows of one's own, as a run. -/
theorem happW_run (ty : TypeId) (B : Nat) (w : World) (hB : B ≤ w.heap.size) (a : Option Addr) (L : List HRw) (cap : Nat) (h : Ow w B a L cap) (b off : Nat) (l : List HRw) (c : Nat)
    (hq : ∀ i (hi : i < l.length), w.cell? ⟨b, off + i * 4, none⟩ = some (.int .i64 l[i].gen) ∧ w.cell? ⟨b, off + i * 4 + 1, none⟩ = some (.bool l[i].live) ∧ w.cell? ⟨b, off + i * 4 + 2, none⟩ = some (.int .i64 l[i].kind) ∧ w.cell? ⟨b, off + i * 4 + 3, none⟩ = some (.int .i64 l[i].pl)) (hL : L.length + l.length ≤ 4398046511104) :
    ∃ a' cap' w', (Builtin.append_ #[51, 51] ty #[.slice a L.length cap, .slice (some ⟨b, off, none⟩) l.length c]).run Tryz.prog w = .ok (.slice a' (L.length + l.length) cap') w' ∧ Ow w' B a' (L ++ l) cap' ∧ Tu (fun k => ob a = some k) w w' ∧ (ob a' = ob a ∨ ob a' = some w.heap.size) := by
  obtain ⟨i0, hi, hz0, hz2, hz3⟩ := info_parts Tryz.infoW
  obtain ⟨v', w', hr, h2, h3, _, h4⟩ := run_append_own_at (P := Tryz.prog) w B 51 ty 57 i0 _ 4 32 Tryz.undRows hi hz0 hz2 hz3 rfl (by decide) (.slice a L.length cap) L.length (cellsW L) h ⟨b, off, none⟩ l.length c (cellsW l) (cellsW_len l) (fun j u hj => by
      have hlt : j < l.length * 4 := by have := (List.getElem?_eq_some_iff.1 hj).1; rw [cellsW_len] at this; exact this
      have hi2 : j / 4 < l.length := by omega
      rw [addr_add]
      obtain ⟨k0, k1, k2, k3⟩ := cellsW_at l (j / 4) hi2
      obtain ⟨q0, q1, q2, q3⟩ := hq (j / 4) hi2
      have hm : j % 4 < 4 := Nat.mod_lt _ (by decide)
      rcases (by omega : j % 4 = 0 ∨ j % 4 = 1 ∨ j % 4 = 2 ∨ j % 4 = 3) with e | e | e | e
      · have e' : j / 4 * 4 = j := by omega
        rw [e'] at k0 q0
        rw [q0, ← k0]; exact hj
      · have e' : j / 4 * 4 + 1 = j := by omega
        rw [Nat.add_assoc, e'] at q1
        rw [e'] at k1
        rw [q1, ← k1]; exact hj
      · have e' : j / 4 * 4 + 2 = j := by omega
        rw [Nat.add_assoc, e'] at q2
        rw [e'] at k2
        rw [q2, ← k2]; exact hj
      · have e' : j / 4 * 4 + 3 = j := by omega
        rw [Nat.add_assoc, e'] at q3
        rw [e'] at k3
        rw [q3, ← k3]; exact hj) (cellsW_one l) (by unfold maxLen; omega) (by omega) hB
  obtain ⟨a', cap', rfl⟩ := hhowns_form h2
  rw [ob_own] at h3 h4
  rw [ob_own] at h4
  refine ⟨a', cap', w', hr, ?_, Tu.grown h3 (fun g hg => hg), h4⟩
  unfold Ow
  rw [List.length_append, cellsW_append]
  exact h2
theorem happH_run (ty : TypeId) (B : Nat) (w : World) (hB : B ≤ w.heap.size) (a : Option Addr) (L : List Nat) (cap : Nat) (h : Oh w B a L cap) (b h0 c : Nat) (hq : w.cell? ⟨b, 0, none⟩ = some (.int .u64 (h0 : Nat))) (hL : L.length ≤ 1000000) :
    ∃ a' cap' w', (Builtin.append_ #[44, 44] ty #[.slice a L.length cap, .slice (some ⟨b, 0, none⟩) 1 c]).run Tryz.prog w = .ok (.slice a' (L.length + 1) cap') w' ∧ Oh w' B a' (L ++ [h0]) cap' ∧ Tu (fun k => ob a = some k) w w' ∧ (ob a' = ob a ∨ ob a' = some w.heap.size) := by
  obtain ⟨i0, hi, hz0, hz2, hz3⟩ := info_parts Tryz.infoH
  obtain ⟨v', w', hr, h2, h3, _, h4⟩ := run_append_own_at (P := Tryz.prog) w B 44 ty 38 i0 _ 1 8 Tryz.undHs hi hz0 hz2 hz3 rfl (by decide) (.slice a L.length cap) L.length (cellsH L) h ⟨b, 0, none⟩ 1 c [.int .u64 (h0 : Nat)] rfl (fun j u hj => by
      match j, hj with
      | 0, hj => simp at hj; subst hj; simpa [Addr.add] using hq) (by intro u hu; simp at hu; subst hu; rfl) (by unfold maxLen; omega) (by omega) hB
  obtain ⟨a', cap', rfl⟩ := hhowns_form h2
  rw [ob_own] at h3 h4
  rw [ob_own] at h4
  refine ⟨a', cap', w', hr, ?_, Tu.grown h3 (fun g hg => hg), h4⟩
  have e : cellsH (L ++ [h0]) = cellsH L ++ [.int .u64 (h0 : Nat)] := by simp [cellsH]
  unfold Oh
  rw [List.length_append, e]
  exact h2
theorem hstep_app {ops : Array Oper} {rest : List Oper} {o : Oper} {a : Act} {Q : Exit → Act → World → Prop} {w : World} (hgd : o.guard = none) (t : TypeId) (s x : Operand)
    (ho : o.op = .call { callee := .builtin .append, args := #[s, x], argTypes := #[t, t] }) (v1 v2 v' : Value) (w' : World) (hs : a.eval s = v1) (hx : a.eval x = v2)
    (hrun : (Builtin.append_ #[t, t] o.type #[v1, v2]).run Tryz.prog w = .ok v' w') (h : wpList Tryz.prog ops Q rest (a.put o.dst v') w') : wpList Tryz.prog ops Q (o :: rest) a w := by
  refine wpList_plain hgd fun K' hK' => ?_
  unfold Oper.wp
  simp [execOp, ho, resolve, invoke, builtin, hs, hx, hrun, Result.andThen]
  exact hK' _ _ h
end Go.Proofs.YtgdjlopnhecmjaaGreatDoor

/- Layer 15: HdB again -/
namespace Go.Proofs.YtgdjlopnhecmjaaGreatDoor
open Go.RowKit
set_option linter.unusedVariables false
set_option maxRecDepth 4000
theorem apart_any (h : Nat) (w : World) (hh : h < 18446744073709551616) :
    Calls Tryz.prog 205 #[.int .u64 (h : Nat)] w fun e w' => e = .returned (.tuple #[.int .i64 ((h % 65536 : Nat) : Int), .int .u64 ((h / 65536 : Nat) : Int)]) ∧ w = w' := by
  go_enter Tryz.func205, Tryz.ntmps205
  go_wp2
  have e1 : (h : Int) - (h : Int) / 65536 * 65536 = ((h % 65536 : Nat) : Int) := by omega
  have e2 : (h : Int) / 65536 = ((h / 65536 : Nat) : Int) := by omega
  go_ret2
  refine ⟨?_, rfl⟩
  show Ending.returned (.tuple #[.int .i64 ((h : Int) - (h : Int) / 65536 * 65536), .int .u64 ((h : Int) / 65536)]) = _
  rw [e1, e2]

theorem next1_any (r : HRw) (w : World) :
    Calls Tryz.prog 191 #[.agg #[.int .i64 r.gen, .bool r.live, .int .i64 r.kind, .int .i64 r.pl]] w fun e w' => e = .returned (.bool (canG r)) ∧ w' = w.alloc (rbox r) := by
  obtain ⟨g, lv, k, p⟩ := r
  cases lv with
  | true =>
    go_enter Tryz.func191, Tryz.ntmps191
    go_wp2
    go_ret
    exact ⟨rfl, rfl⟩
  | false =>
    by_cases hg : g < 65535
    · have e : canG ⟨g, false, k, p⟩ = true := by simp [canG, hg]
      rw [e]
      go_enter Tryz.func191, Tryz.ntmps191
      go_wp2
      go_ret
      exact ⟨rfl, rfl⟩
    · have e : canG ⟨g, false, k, p⟩ = false := by simp [canG, hg]
      rw [e]
      go_enter Tryz.func191, Tryz.ntmps191
      go_wp2
      go_ret
      exact ⟨rfl, rfl⟩

set_option maxHeartbeats 1000000 in
theorem hindex_any (a : Option Addr) (c : Nat) (xs : List HRw) (w : World) (h : IsW w a xs) (hx : xs.length ≤ 1000000) (R : Int) (hR : (if nxL xs < xs.length then ((nxL xs : Nat) : Int) else -1) = R) :
    Calls Tryz.prog 190 #[.slice a xs.length c, .func (.func 191) #[] #[]] w fun e w' => Below w.heap.size w w' ∧ e = .returned (.int .i64 R) := by
  have HR : Hid ((if nxL xs < xs.length then ((nxL xs : Nat) : Int) else -1) = R) := hR
  clear hR
  have H : Hid (IsW w a xs) := h
  have B0 : Hid (Below w.heap.size w w) := Below.refl _ _
  clear h
  go_enter Tryz.func190, Tryz.ntmps190
  go_wp2
  go_loopw [8] (fun iv wr => ∃ i : Nat, i ≤ xs.length ∧ iv = .int .i64 (i : Nat) ∧ (∀ j (hj : j < i) (hj' : j < xs.length), canG xs[j] = false) ∧ Below w.heap.size w wr) (fun iv _ => xs.length - (intOf iv).toNat)
  case atStart => exact ⟨0, Nat.zero_le _, rfl, fun j hj => by omega, B0.out⟩
  case round =>
    obtain ⟨i, hi, rfl, hA, hB⟩ := hrel
    rename World => wr
    have HA : Hid (∀ j (hj : j < i) (hj' : j < xs.length), canG xs[j] = false) := hA
    have HB : Hid (Below w.heap.size w wr) := hB
    by_cases hlt : i < xs.length
    · rcases H.out.keep hB with e | ⟨b, off, rfl, hb, hc⟩
      · rw [e] at hlt; simp at hlt
      · obtain ⟨c0, c1, c2, c3⟩ := hc i hlt
        obtain ⟨x, hx'⟩ : ∃ x, xs[i] = x := ⟨_, rfl⟩
        have EX : Hid (xs[i] = x) := hx'
        rw [hx'] at c0 c1 c2 c3
        clear hA hB hx' hc
        have hlt' : (i : Int) < xs.length := by omega
        cases hz : canG x with
        | true =>
          have EZ : Hid (canG x = true) := hz
          have EN : Hid ((if nxL xs < xs.length then ((nxL xs : Nat) : Int) else -1) = (i : Nat)) := by
            have := nx_eq hlt (by rw [EX.out]; exact hz) (fun j hj => HA.out j hj (by omega))
            show _ = _
            rw [this, if_pos hlt]
          clear hz
          go_wp2_with (go_at_call 191; refine (next1_any x _).mono ?_; rw [EZ.out]; rintro e w1 ⟨rfl, rfl⟩)
          go_ret
          exact ⟨HB.out.alloc HB.out.size _, ret_int (EN.out.symm.trans HR.out)⟩
        | false =>
          have EZ : Hid (canG x = false) := hz
          clear hz
          go_wp2_with (go_at_call 191; refine (next1_any x _).mono ?_; rw [EZ.out]; rintro e w1 ⟨rfl, rfl⟩)
          go_roundw
          case rel =>
            refine ⟨i + 1, by omega, by go_num, fun j hj hj' => ?_, HB.out.alloc HB.out.size _⟩
            rcases Nat.lt_or_ge j i with k | k
            · exact HA.out j k hj'
            · obtain rfl : j = i := by omega
              rw [EX.out]; exact EZ.out
          case measure => simp [intOf]; omega
    · obtain rfl : i = xs.length := by omega
      have EN : Hid ((if nxL xs < xs.length then ((nxL xs : Nat) : Int) else -1) = -1) := by
        have := nx_none (fun j hj => HA.out j hj hj)
        show _ = _
        rw [this, if_neg (by omega)]
      clear hA hB
      go_wp2
      go_ret
      exact ⟨HB.out, ret_int (EN.out.symm.trans HR.out)⟩

/-- The code's table. -/
structure Ct (w : World) (B b : Nat) (a : Option Addr) (c n : Nat) (L : List HRw) : Prop where
  box : w.heap[b]? = some (.cells #[.int .i64 (n : Nat), .slice a L.length c] 184 (0, 0))
  row : Ow w B a L c
  gd : Gd n L
  bb : B ≤ b
theorem Ct.lt {w : World} {B b : Nat} {a : Option Addr} {c n : Nat} {L : List HRw} (h : Ct w B b a c n L) : b < w.heap.size := hlt h.box
theorem Ct.cell0 {w : World} {B b : Nat} {a : Option Addr} {c n : Nat} {L : List HRw} (h : Ct w B b a c n L) : w.cell? ⟨b, 0, none⟩ = some (.int .i64 (n : Nat)) := cell_of_row w b 0 _ _ _ h.box
theorem Ct.cell1 {w : World} {B b : Nat} {a : Option Addr} {c n : Nat} {L : List HRw} (h : Ct w B b a c n L) : w.cell? ⟨b, 1, none⟩ = some (.slice a L.length c) := cell_of_row w b 1 _ _ _ h.box
theorem Ct.keep {w w' : World} {B b : Nat} {a : Option Addr} {c n : Nat} {L : List HRw} (h : Ct w B b a c n L) (hb : Below w.heap.size w w') : Ct w' B b a c n L := ⟨by rw [hb.block b h.lt]; exact h.box, h.row.keep hb, h.gd, h.bb⟩
theorem Ct.tu {S : Nat → Prop} {w w' : World} {B b : Nat} {a : Option Addr} {c n : Nat} {L : List HRw} (h : Ct w B b a c n L) (ht : Tu S w w') (h1 : ¬ S b) (h2 : ∀ g, ob a = some g → ¬ S g) : Ct w' B b a c n L := ⟨ht.block b _ h.box h1, h.row.tu ht h2, h.gd, h.bb⟩
theorem Ct.drew {w : World} {B b : Nat} {a : Option Addr} {c n : Nat} {L : List HRw} (h : Ct w B b a c n L) : Ct w.drew B b a c n L := ⟨h.box, h.row, h.gd, h.bb⟩
theorem Ct.len {w : World} {B b : Nat} {a : Option Addr} {c n : Nat} {L : List HRw} (h : Ct w B b a c n L) : L.length ≤ 4096 ∧ n ≤ 4096 ∧ L.length ≤ n := ⟨Nat.le_trans h.gd.len h.gd.n2, h.gd.n2, h.gd.len⟩

theorem hnext_any (B b : Nat) (a : Option Addr) (c n : Nat) (L : List HRw) (w : World) (h : Ct w B b a c n L) :
    Calls Tryz.prog 130 #[.pointer (some ⟨b, 0, none⟩)] w fun e w' => e = .returned (.int .i64 (nxL L : Nat)) ∧ Below w.heap.size w w' := by
  have H : Hid (Ct w B b a c n L) := h
  have c1 := h.cell1
  have hl := h.len
  have hn := nx_le L
  clear h
  by_cases hlt : nxL L < L.length
  · have E : Hid ((if nxL L < L.length then ((nxL L : Nat) : Int) else -1) = (nxL L : Nat)) := if_pos hlt
    go_enter Tryz.func130, Tryz.ntmps130
    go_wp2_with fail
    refine (hindex_any a c L _ H.out.row.isW (by omega) _ E.out).mono ?_
    rintro e w1 ⟨b1, rfl⟩
    have B1 : Hid (Below w.heap.size w w1) := b1
    clear b1
    have h0 : ¬ (((nxL L : Nat) : Int) < 0) := by omega
    go_wp2
    go_ret
    exact ⟨rfl, B1.out⟩
  · have E : Hid ((if nxL L < L.length then ((nxL L : Nat) : Int) else -1) = -1) := if_neg hlt
    have EL : Hid (nxL L = L.length) := by show _ = _; omega
    go_enter Tryz.func130, Tryz.ntmps130
    go_wp2_with fail
    refine (hindex_any a c L _ H.out.row.isW (by omega) _ E.out).mono ?_
    rintro e w1 ⟨b1, rfl⟩
    have B1 : Hid (Below w.heap.size w w1) := b1
    have d1 := (H.out.keep b1).cell1
    clear b1
    go_wp2
    go_ret
    exact ⟨by rw [EL.out]; rfl, B1.out⟩
end Go.Proofs.YtgdjlopnhecmjaaGreatDoor

/- Layer 15: HdC again -/
namespace Go.Proofs.YtgdjlopnhecmjaaGreatDoor
open Go.RowKit
set_option linter.unusedVariables false
set_option maxRecDepth 4000
set_option maxHeartbeats 1000000 in
theorem full_any (B b : Nat) (a : Option Addr) (c n : Nat) (L : List HRw) (w : World) (h : Ct w B b a c n L) :
    Calls Tryz.prog 70 #[.pointer (some ⟨b, 0, none⟩)] w fun e w' => e = .returned (.bool (decide (n ≤ nxL L))) ∧ Below w.heap.size w w' := by
  have H : Hid (Ct w B b a c n L) := h
  have c0 := h.cell0
  have hl := h.len
  have hn := nx_le L
  clear h
  obtain ⟨k, hk⟩ : ∃ k, nxL L = k := ⟨_, rfl⟩
  have EK : Hid (nxL L = k) := hk
  rw [hk] at hn ⊢
  clear hk
  go_enter Tryz.func70, Tryz.ntmps70
  go_wp2_with fail
  go_region_held3 (fun w' => w'.cell? ⟨b, 0, none⟩ = some (.int .i64 (n : Nat))) (first | assumption | go_keep)
    ((go_at_call 130; refine (hnext_any B b a c n L _ H.out.drew).mono ?_; rw [EK.out]; rintro e w1 ⟨rfl, b1⟩; have B1 : Hid (Below w.heap.size w w1) := ⟨b1.os, b1.tape, b1.output, b1.size, b1.block⟩; have p0 : w1.cell? ⟨b, 0, none⟩ = some (.int .i64 (n : Nat)) := (H.out.keep B1.out).cell0; clear b1))
  go_wp2
  go_ret
  exact ⟨ret_bool (by simp), B1.out⟩

/-- A row is stored. -/
def set4 (w : World) (g i : Nat) (r : HRw) : World := (((w.setCell ⟨g, i * 4, none⟩ (.int .i64 r.gen)).setCell ⟨g, i * 4 + 1, none⟩ (.bool r.live)).setCell ⟨g, i * 4 + 2, none⟩ (.int .i64 r.kind)).setCell ⟨g, i * 4 + 3, none⟩ (.int .i64 r.pl)
theorem set4_only (w : World) (g i : Nat) (r : HRw) : Only g w (set4 w g i r) := (((Only.set g _ _ w).trans (Only.set g _ _ _)).trans (Only.set g _ _ _)).trans (Only.set g _ _ _)
theorem Ow.set4 {w : World} {B g : Nat} {L : List HRw} {c : Nat} (h : Ow w B (some ⟨g, 0, none⟩) L c) (i : Nat) (hi : i < L.length) (r : HRw) : Ow (set4 w g i r) B (some ⟨g, 0, none⟩) (L.set i r) c := by
  obtain ⟨h0, ⟨h1, h2⟩ | ⟨g', c', cur, h1, hb, h2, h3, h4, h5, h6⟩⟩ := h
  · cases h1
  · cases h1
    have k1 := heap_setCell_same w g (i * 4) _ _ (.int .i64 r.gen) h2
    have k2 := heap_setCell_same _ g (i * 4 + 1) _ _ (.bool r.live) k1
    have k3 := heap_setCell_same _ g (i * 4 + 2) _ _ (.int .i64 r.kind) k2
    have k4 := heap_setCell_same _ g (i * 4 + 3) _ _ (.int .i64 r.pl) k3
    refine ⟨by rw [cellsW_len], .inr ⟨g, c, _, by rw [List.length_set], hb, k4, by rw [List.length_set]; exact h3, h4, by simpa using h5, ?_⟩⟩
    rw [← hcellsW_set L i r hi, ← h6, List.length_set]
    simp [List.take_set]
theorem Ow.thawed {w : World} {B g : Nat} {L : List HRw} {c : Nat} (h : Ow w B (some ⟨g, 0, none⟩) L c) (j : Nat) : w.frozen? ⟨g, j, none⟩ = false := by
  obtain ⟨_, ⟨h1, _⟩ | ⟨g', c', cur, h1, _, h2, _⟩⟩ := h
  · cases h1
  · cases h1; exact frozen_of_row w g j _ _ h2
/-- The row is no box. -/
theorem Ct.apart {w : World} {B b : Nat} {a : Option Addr} {c n : Nat} {L : List HRw} (h : Ct w B b a c n L) : ob a ≠ some b := by
  intro e
  obtain ⟨cur, hc⟩ := h.row.kind b e
  rw [h.box] at hc
  simp at hc

/-- What may be others behind a call on a table. -/
def Mine (b : Nat) (a : Option Addr) : Nat → Prop := fun k => k = b ∨ ob a = some k

set_option maxHeartbeats 4000000 in
theorem make_old (B b g : Nat) (c n : Nat) (L : List HRw) (kd pl : Int) (w : World) (h : Ct w B b (some ⟨g, 0, none⟩) c n L) (hf : nxL L < L.length) :
    Calls Tryz.prog 73 #[.pointer (some ⟨b, 0, none⟩), .int .i64 kd, .int .i64 pl] w fun e w' => e = .returned (.tuple #[.int .u64 (ofN ((nxL L : Nat) + 1) (makeG L) : Nat), .int .i64 0]) ∧ Ct w' B b (some ⟨g, 0, none⟩) c n (makeL L kd pl) ∧ Tu (Mine b (some ⟨g, 0, none⟩)) w w' := by
  have H : Hid (Ct w B b (some ⟨g, 0, none⟩) c n L) := h
  have hl := h.len
  have ED : Hid (decide (n ≤ nxL L) = false) := decide_eq_false (by omega)
  have hG := makeG_in h.gd
  obtain ⟨x, hx⟩ : ∃ x, L[nxL L] = x := ⟨_, rfl⟩
  have hMG : makeG L = x.gen + 1 := by unfold makeG; rw [dif_pos hf, hx]
  have ML : Hid (makeL L kd pl = L.set (nxL L) ⟨x.gen + 1, true, kd, pl⟩) := by show _ = _; unfold makeL; rw [dif_pos hf, hx]
  have GM : Hid (Gd n (makeL L kd pl)) := h.gd.make (by omega) kd pl
  obtain ⟨k, hk⟩ : ∃ k, nxL L = k := ⟨_, rfl⟩
  have EK : Hid (nxL L = k) := hk
  have EX : Hid (∃ hk : k < L.length, L[k] = x) := ⟨by omega, by simp only [← hk]; exact hx⟩
  have hkl : k < L.length := by omega
  rw [hMG] at hG ⊢
  clear h hx hMG
  rw [hk] at hf ED ML ⊢
  clear hk
  obtain ⟨N, hN⟩ : ∃ N, ofN ((k : Nat) + 1) (x.gen + 1) = N := ⟨_, rfl⟩
  have EN : Hid (ofN ((k : Nat) + 1) (x.gen + 1) = N) := hN
  rw [hN]
  clear hN
  go_enter Tryz.func73, Tryz.ntmps73
  go_wp2_with fail
  refine (full_any B b _ c n L _ H.out).mono ?_
  rw [EK.out, ED.out]
  rintro e w1 ⟨rfl, b1⟩
  have B1 : Hid (Below w.heap.size w w1) := b1
  clear b1
  go_wp2_with fail
  refine (hnext_any B b _ c n L _ (H.out.keep B1.out)).mono ?_
  rw [EK.out]
  rintro e w2 ⟨rfl, b2⟩
  have B2 : Hid (Below w.heap.size w w2) := B1.out.trans (b2.mono B1.out.size)
  have C2 : Hid (Ct w2 B b (some ⟨g, 0, none⟩) c n L) := H.out.keep B2.out
  clear b2
  have d1 := C2.out.cell1
  obtain ⟨g0, e0, hgb, hgs, k0, k1, k2, k3⟩ := C2.out.row.cells k hkl
  cases e0
  obtain ⟨_, hx⟩ := EX.out
  rw [hx] at k0 k1 k2 k3
  have t0 := C2.out.row.thawed (k * 4)
  have t1 := C2.out.row.thawed (k * 4 + 1)
  have t2 := C2.out.row.thawed (k * 4 + 2)
  have t3 := C2.out.row.thawed (k * 4 + 3)
  have hne : ¬ ((k : Int) = (L.length : Int)) := by omega
  have hlt' : (k : Int) < (L.length : Int) := by omega
  have SZ : Hid (Ct (set4 w2 g k ⟨x.gen + 1, true, kd, pl⟩) B b (some ⟨g, 0, none⟩) c n (makeL L kd pl)) := by
    have ho := set4_only w2 g k ⟨x.gen + 1, true, kd, pl⟩
    have hnb : b ≠ g := fun e => C2.out.apart (by rw [e]; rfl)
    refine ⟨?_, ?_, GM.out, C2.out.bb⟩
    · rw [ho.block b hnb, C2.out.box, ML.out, List.length_set]
    · rw [ML.out]; exact C2.out.row.set4 k hkl _
  have TZ : Hid (Tu (Mine b (some ⟨g, 0, none⟩)) w (set4 w2 g k ⟨x.gen + 1, true, kd, pl⟩)) := (Tu.ofBelow B2.out).only (set4_only w2 g k ⟨x.gen + 1, true, kd, pl⟩) (.inr rfl)
  clear hx
  go_wp2_with (go_at_call 135; refine (of_any ((k : Nat) + 1) (x.gen + 1) _ (by omega) (by omega)).mono ?_; rw [EN.out]; rintro e w3 ⟨rfl, rfl⟩)
  go_ret2
  exact ⟨rfl, SZ.out, TZ.out⟩
end Go.Proofs.YtgdjlopnhecmjaaGreatDoor

/- Layer 15: HdD again -/
namespace Go.Proofs.YtgdjlopnhecmjaaGreatDoor
open Go.RowKit
set_option linter.unusedVariables false
set_option maxRecDepth 4000
theorem Ow.parts {w : World} {B : Nat} {a : Option Addr} {L : List HRw} {c : Nat} (h : Ow w B a L c) (hl : 0 < L.length) : ∃ g, a = some ⟨g, 0, none⟩ := by
  obtain ⟨g, e, _⟩ := h.cells 0 hl
  exact ⟨g, e⟩
theorem nx_new {L : List HRw} (h : ¬ nxL L < L.length) : nxL L = L.length := by have := nx_le L; omega

set_option maxHeartbeats 4000000 in
theorem make_new (B b : Nat) (a : Option Addr) (c n : Nat) (L : List HRw) (kd pl : Int) (w : World) (h : Ct w B b a c n L) (hB : B ≤ w.heap.size) (hf : ¬ nxL L < L.length) (hn : nxL L < n) :
    Calls Tryz.prog 73 #[.pointer (some ⟨b, 0, none⟩), .int .i64 kd, .int .i64 pl] w fun e w' => ∃ a' c', e = .returned (.tuple #[.int .u64 (ofN ((nxL L : Nat) + 1) (makeG L) : Nat), .int .i64 0]) ∧ Ct w' B b a' c' n (makeL L kd pl) ∧ Tu (Mine b a) w w' ∧ (ob a' = ob a ∨ ∃ g, ob a' = some g ∧ w.heap.size ≤ g) := by
  have H : Hid (Ct w B b a c n L) := h
  have hl := h.len
  have hk := nx_new hf
  have ED : Hid (decide (n ≤ nxL L) = false) := decide_eq_false (by omega)
  have hMG : makeG L = 1 := by unfold makeG; rw [dif_neg hf]
  have ML : Hid (makeL L kd pl = L ++ [⟨1, true, kd, pl⟩]) := by show _ = _; unfold makeL; rw [dif_neg hf]
  have GM : Hid (Gd n (makeL L kd pl)) := h.gd.make hn kd pl
  have EK : Hid (nxL L = L.length) := hk
  rw [hMG]
  clear h hMG
  rw [hk] at hn ED ⊢
  clear hk hf
  obtain ⟨N, hN⟩ : ∃ N, ofN ((L.length : Nat) + 1) 1 = N := ⟨_, rfl⟩
  have EN : Hid (ofN ((L.length : Nat) + 1) 1 = N) := hN
  rw [hN]
  clear hN
  go_enter Tryz.func73, Tryz.ntmps73
  go_wp2_with fail
  refine (full_any B b _ c n L _ H.out).mono ?_
  rw [EK.out, ED.out]
  rintro e w1 ⟨rfl, b1⟩
  have B1 : Hid (Below w.heap.size w w1) := b1
  clear b1
  go_wp2_with fail
  refine (hnext_any B b _ c n L _ (H.out.keep B1.out)).mono ?_
  rw [EK.out]
  rintro e w2 ⟨rfl, b2⟩
  have B2 : Hid (Below w.heap.size w w2) := B1.out.trans (b2.mono B1.out.size)
  have C2 : Hid (Ct w2 B b a c n L) := H.out.keep B2.out
  clear b2
  have d1 := C2.out.cell1
  obtain ⟨wz, hwz⟩ : ∃ wz, w2.alloc (.cells #[.int .i64 0, .bool false, .int .i64 0, .int .i64 0] 57) = wz := ⟨_, rfl⟩
  have BZ : Below w2.heap.size w2 wz := by rw [← hwz]; exact (Below.refl _ w2).alloc (Nat.le_refl _) _
  have QZ : wz.heap[w2.heap.size]? = some (.cells #[.int .i64 0, .bool false, .int .i64 0, .int .i64 0] 57 (0, 0)) := by rw [← hwz]; exact Go.heap_alloc_new w2 _
  obtain ⟨a', c', w3, hrun, r3, u3, o3⟩ := happW_run 51 B wz (by have := BZ.size; have := B2.out.size; omega) a L c (C2.out.row.keep BZ) w2.heap.size 0 [zr] 1 (fun i hi => by
    simp at hi; subst hi
    exact ⟨cell_of_row _ _ 0 _ _ _ QZ, cell_of_row _ _ 1 _ _ _ QZ, cell_of_row _ _ 2 _ _ _ QZ, cell_of_row _ _ 3 _ _ _ QZ⟩) (by simp; omega)
  simp only [List.length_cons, List.length_nil, Nat.zero_add] at hrun
  obtain ⟨g, rfl⟩ := r3.parts (by simp)
  have hnb : b ≠ g := by
    rintro rfl
    rcases o3 with e | e
    · exact C2.out.apart e.symm
    · have : b = wz.heap.size := Option.some.inj e
      have h1 := C2.out.lt
      have h2 := BZ.size
      omega
  have X3 : w3.heap[b]? = some (.cells #[.int .i64 (n : Nat), .slice a L.length c] 184 (0, 0)) := u3.block b _ ((C2.out.keep BZ).box) (fun e => C2.out.apart e)
  have x1 : w3.cell? ⟨b, 1, none⟩ = some (.slice a L.length c) := cell_of_row w3 b 1 _ _ _ X3
  have z1 : w3.frozen? ⟨b, 1, none⟩ = false := frozen_of_row w3 b 1 _ _ X3
  obtain ⟨w4, hw4⟩ : ∃ w4, w3.setCell ⟨b, 1, none⟩ (.slice (some ⟨g, 0, none⟩) (L.length + 1) c') = w4 := ⟨_, rfl⟩
  have O4 : Only b w3 w4 := by rw [← hw4]; exact Only.set b 1 _ w3
  have X4 : w4.heap[b]? = some (.cells #[.int .i64 (n : Nat), .slice (some ⟨g, 0, none⟩) (L.length + 1) c'] 184 (0, 0)) := by
    rw [← hw4, heap_setCell_same w3 b 1 _ _ _ X3]; rfl
  have R4 : Ow w4 B (some ⟨g, 0, none⟩) (L ++ [zr]) c' := r3.same (fun g' o e ho => by cases e; rw [O4.block g (Ne.symm hnb)]; exact ho)
  have y1 : w4.cell? ⟨b, 1, none⟩ = some (.slice (some ⟨g, 0, none⟩) (L.length + 1) c') := cell_of_row w4 b 1 _ _ _ X4
  obtain ⟨g0, e0, hgb, hgs, k0, k1, k2, k3⟩ := R4.cells L.length (by simp)
  cases e0
  have hx : (L ++ [zr])[L.length]'(by simp) = zr := by simp
  rw [hx] at k0 k1 k2 k3
  have t0 := R4.thawed (L.length * 4)
  have t1 := R4.thawed (L.length * 4 + 1)
  have t2 := R4.thawed (L.length * 4 + 2)
  have t3 := R4.thawed (L.length * 4 + 3)
  have hc := R4.len.2
  simp only [zr] at k0 k1 k2 k3
  have SZ : Hid (Ct (set4 w4 g L.length ⟨1, true, kd, pl⟩) B b (some ⟨g, 0, none⟩) c' n (makeL L kd pl)) := by
    have ho := set4_only w4 g L.length ⟨1, true, kd, pl⟩
    refine ⟨?_, ?_, GM.out, H.out.bb⟩
    · rw [ho.block b hnb, X4, ML.out]; simp
    · rw [ML.out]
      have := R4.set4 L.length (by simp) ⟨1, true, kd, pl⟩
      simpa using this
  have TZ : Hid (Tu (Mine b a) w (set4 w4 g L.length ⟨1, true, kd, pl⟩)) := by
    have q : Tu (Mine b a) w w4 := (((Tu.ofBelow B2.out).trans (Tu.ofBelow BZ)).trans (u3.mono (fun k _ e => .inr e))).only O4 (.inl rfl)
    have ho := set4_only w4 g L.length ⟨1, true, kd, pl⟩
    have hz2 := B2.out.size
    have hzz := BZ.size
    rcases o3 with e | e
    · exact q.only ho (.inr e.symm)
    · have : g = wz.heap.size := Option.some.inj e
      refine ⟨ho.os.trans q.os, ho.tape.trans q.tape, ho.output.trans q.output, Nat.le_trans q.size (Nat.le_of_eq ho.size.symm), fun i o hi hk => ?_⟩
      rw [ho.block i (by have := hlt hi; omega)]
      exact q.block i o hi hk
  have OZ : Hid (ob (some ⟨g, 0, none⟩) = ob a ∨ ∃ g', ob (some ⟨g, 0, none⟩) = some g' ∧ w.heap.size ≤ g') := by
    have hz2 := B2.out.size
    have hzz := BZ.size
    rcases o3 with e | e
    · exact .inl e
    · exact .inr ⟨_, e, by omega⟩
  have hlt' : (L.length : Int) < ((L.length + 1 : Nat) : Int) := by omega
  have hne : b ≠ g := hnb
  clear r3 u3 o3 X3 O4 X4 R4 QZ BZ hx
  go_wp2_with (first
    | (at_builtin; (try rw [hwz]); refine hstep_app rfl 51 _ _ rfl (.slice a L.length c) (.slice (some ⟨w2.heap.size, 0, none⟩) 1 1) (.slice (some ⟨g, 0, none⟩) (L.length + 1) c') w3 rfl rfl hrun ?_)
    | (go_at_call 135; refine (of_any ((L.length : Nat) + 1) 1 _ (by omega) (by omega)).mono ?_; rw [EN.out]; rintro e w5 ⟨rfl, rfl⟩))
  go_ret2
  exact ⟨_, _, rfl, SZ.out, TZ.out, OZ.out⟩

theorem make_any (B b : Nat) (a : Option Addr) (c n : Nat) (L : List HRw) (kd pl : Int) (w : World) (h : Ct w B b a c n L) (hB : B ≤ w.heap.size) (hn : nxL L < n) :
    Calls Tryz.prog 73 #[.pointer (some ⟨b, 0, none⟩), .int .i64 kd, .int .i64 pl] w fun e w' => ∃ a' c', e = .returned (.tuple #[.int .u64 (ofN ((nxL L : Nat) + 1) (makeG L) : Nat), .int .i64 0]) ∧ Ct w' B b a' c' n (makeL L kd pl) ∧ Tu (Mine b a) w w' ∧ (ob a' = ob a ∨ ∃ g, ob a' = some g ∧ w.heap.size ≤ g) := by
  by_cases hf : nxL L < L.length
  · obtain ⟨g, rfl⟩ := h.row.parts (by omega)
    refine (make_old B b g c n L kd pl w h hf).mono ?_
    rintro e w' ⟨rfl, h1, h2⟩
    exact ⟨_, _, rfl, h1, h2, .inl rfl⟩
  · exact make_new B b a c n L kd pl w h hB hf hn
end Go.Proofs.YtgdjlopnhecmjaaGreatDoor
