/- What end and Give do. -/
import Derived.Test.YtgmljgogmbaioabGreatDoorKaO
import Derived.Test.YtgmljgogmbaioabGreatDoorPuC
namespace Go.Proofs.YtgmljgogmbaioabGreatDoor
open Go.RowKit
set_option linter.unusedVariables false
set_option maxRecDepth 4000

theorem ent_page : (match Tryz.prog.funcs[44]? with | some fn => !(fn.name == "runtime.NumGoroutine") && !fn.body.isNone | none => false) = true := by kernel_rfl
theorem ent_pages : (match Tryz.prog.funcs[45]? with | some fn => !(fn.name == "runtime.NumGoroutine") && !fn.body.isNone | none => false) = true := by kernel_rfl
theorem ent_ugive : (match Tryz.prog.funcs[43]? with | some fn => !(fn.name == "runtime.NumGoroutine") && !fn.body.isNone | none => false) = true := by kernel_rfl
set_option maxHeartbeats 1000000 in
theorem kend_any (L : Nat → Nat) (cb fb hb : Nat) (a : Option Addr) (cap : Nat) (ps : List Nat) (sh : List Value) (P W : Nat) (φ : Nat → Bool) (m : List Sg) (K : Nat → Nat → List Nat) (p : Nat) (s : Sg) (w : World) (h : Cm w L cb fb hb a cap ps sh P W φ m K) (hbx : Bx w p (s.pg : Int) (s.cl : Int) (s.bts : Int)) (rt : Rt (s.pg : Int) (s.cl : Int) (s.bts : Int)) (hP : P ≤ 4096) (hle : s.pg + s.k ≤ P) (hall : AllF φ s.pg s.k true) :
    Calls Tryz.prog 20 #[.pointer (some ⟨cb, 0, none⟩), .pointer (some ⟨p, 0, none⟩)] w fun e w' => e = .returned (.tuple #[]) ∧ Cm w' (lab L w.heap.size 2) cb fb hb a cap ps sh P W (turnU φ s.pg s.k false) m K ∧ Tu (fun k => L k = 2 ∨ w.heap.size ≤ k) w w' := by
  have HC : Hid (Cm w L cb fb hb a cap ps sh P W φ m K) := h
  have HB : Hid (Bx w.drew p (s.pg : Int) (s.cl : Int) (s.bts : Int)) := hbx.drew
  have HTC : Hid (TabC w.drew) := h.tab.1
  have c0 := h.cell0
  have FR : Hid (IsR w.drew (fun j => L j = 2 ∨ w.heap.size ≤ j) fb P φ) := (h.free.mono (fun i _ e => .inl e)).drew
  have h0 := rt.c0
  have h7 := rt.c7
  obtain ⟨k, hk⟩ : ∃ k, s.k = k := ⟨_, rfl⟩
  have EK : Hid (pgsN (s.cl : Int) (s.bts : Int) = k) := hk
  have hk1 : 1 ≤ k := by have := rt.facts.2.2.2.2.2.2.1; have e : s.k = pgsN (s.cl : Int) (s.bts : Int) := rfl; omega
  rw [hk] at hle hall ⊢
  have HALL : Hid (AllF φ s.pg k true) := hall
  have PC : Hid (Calls Tryz.prog 45 #[.pointer (some ⟨p, 0, none⟩)] w.drew fun e w' => e = .returned (.int .i64 (k : Nat)) ∧ w' = w.drew) := (pages_q p _ _ _ k w.drew HB.out HTC.out h0 h7 EK.out)
  clear h hbx rt hall hk
  go_enter Tryz.func20, Tryz.ntmps20
  go_wp2_with fail
  go_region_law (first
    | (refine step_call rfl 44 _ _ rfl [.pointer (some ⟨p, 0, none⟩)] (by simp [Act.eval, Act.put]) _ (page_any p _ _ _ w.drew HB.out) ent_page ?_; rintro e w2 ⟨rfl, rfl⟩; refine ⟨_, rfl, ?_⟩)
    | (refine step_call rfl 45 _ _ rfl [.pointer (some ⟨p, 0, none⟩)] (by simp [Act.eval]) _ PC.out ent_pages ?_; rintro e w2 ⟨rfl, rfl⟩; refine ⟨_, rfl, ?_⟩)
    | (refine step_call rfl 43 _ _ rfl [.pointer (some ⟨fb, 0, none⟩), .int .i64 (s.pg : Int), .int .i64 (k : Int)] (by simp [Act.eval]) _ (ugive_any _ fb P φ (s.pg : Int) (k : Int) w.drew FR.out (fun i hi => .inr hi) (by omega) (by omega) (by omega)) ent_ugive ?_; rintro e w2 ⟨r, f', rfl, hU, i1, t1⟩; refine ⟨_, rfl, ?_⟩; have HU : Hid (TurnR P φ (s.pg : Int) (k : Int) false r f') := hU; have I1 : Hid (IsR w2 (fun j => L j = 2 ∨ w.heap.size ≤ j) fb P f') := i1; have T1 : Hid (Tu (fun j => L j = 2 ∨ w.heap.size ≤ j) w.drew w2) := t1; clear hU i1 t1))
  all_goals
    go_wp2
    go_end0
    have T1' : Tu (fun j => L j = 2 ∨ w.heap.size ≤ j) w w2 := ⟨T1.out.os, T1.out.tape, T1.out.output, T1.out.size, T1.out.block⟩
    obtain ⟨_, rfl⟩ : r = 0 ∧ f' = turnU φ s.pg k false := HU.out.one (.inr (.inr ⟨by omega, by omega, by omega, by rw [Int.toNat_natCast, Int.toNat_natCast]; exact HALL.out, rfl, by rw [Int.toNat_natCast, Int.toNat_natCast]⟩))
    refine ⟨rfl, HC.out.freed (lab_ext w L 2) T1' (I1.out.mono (fun i _ hi => ?_)), T1'⟩
    unfold lab; split
    · rcases hi with e | e
      · exact e
      · omega
    · rfl
end Go.Proofs.YtgmljgogmbaioabGreatDoor
