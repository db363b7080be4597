/- What put and end do. -/
import Derived.Test.YtgmljgogmbaioaaGreatDoorKaN
import Derived.Test.YtgmljgogmbaioaaGreatDoorPuC
namespace Go.Proofs.YtgmljgogmbaioaaGreatDoor
open Go.RowKit
set_option linter.unusedVariables false
set_option maxRecDepth 4000

theorem ent_insI : (match Tryz.prog.funcs[94]? with | some fn => !(fn.name == "runtime.NumGoroutine") && !fn.body.isNone | none => false) = true := by kernel_rfl
theorem insI_q (S : Nat → Prop) (a : Option Addr) (q : Nat) (l : List Value) (n cap i : Nat) (v : Value) (w : World) (h : VAt w S 3 a l cap) (hS : ∀ k, w.heap.size ≤ k → S k) (hn : l.length = n) (hi : i ≤ n) (hl : n ≤ 100000) (h1 : ∀ v ∈ l, v.oneCell' = true) (hv : v.oneCell' = true) (hq : w.heap[q]? = some (.cells #[v] 3 (0, 0))) (hne : ∀ g, ob a = some g → q ≠ g) :
    Calls Tryz.prog 94 #[.slice a n cap, .int .i64 (i : Nat), .slice (some ⟨q, 0, none⟩) 1 1] w fun e w' => ∃ a' cap', e = .returned (.slice a' (n + 1) cap') ∧ VAt w' S 3 a' (l.take i ++ v :: l.drop i) cap' ∧ Tu (fun k => ob a = some k) w w' ∧ (ob a' = ob a ∨ ob a' = some w.heap.size) := by
  subst hn; exact insI_any S a q l cap i v w h hS hi hl h1 hv hq hne
theorem nums_ins (l : List Nat) (i x : Nat) : (l.take i ++ x :: l.drop i).map numV = (l.map numV).take i ++ numV x :: (l.map numV).drop i := by rw [List.map_append, List.map_cons, List.map_take, List.map_drop]
set_option maxHeartbeats 1000000 in
theorem kput_any (L : Nat → Nat) (cb fb hb : Nat) (a : Option Addr) (cap : Nat) (ps : List Nat) (sh : List Value) (P W : Nat) (φ : Nat → Bool) (m : List Sg) (K : Nat → Nat → List Nat) (v c x : Nat) (w : World) (h : Cm w L cb fb hb a cap ps sh P W φ m K) (hv : v < W) (hc : c < 7) (hs : (K v c).Pairwise (· < ·)) (hl : (K v c).length ≤ 99999) :
    Calls Tryz.prog 61 #[.pointer (some ⟨hb, v * 7, none⟩), .int .i64 (c : Nat), .int .i64 (x : Nat)] w fun e w' => e = .returned (.tuple #[]) ∧ ∃ i L' sh', BinR (K v c) (x : Nat) i ∧ Cm w' L' cb fb hb a cap ps sh' P W φ m (upd K v c ((K v c).take i ++ x :: (K v c).drop i)) ∧ Mv L w L' w' := by
  obtain ⟨ak, ck, k1, k2, k3⟩ := h.kept v c hv hc
  have HC : Hid (Cm w L cb fb hb a cap ps sh P W φ m K) := h
  have KV : Hid (VAt w (fun k => L k = 6 + 2 * (v * 7 + c)) 3 ak ((K v c).map numV) ck) := k3
  have HS : Hid ((K v c).Pairwise (· < ·)) := hs
  obtain ⟨n, hn⟩ : ∃ n, (K v c).length = n := ⟨_, rfl⟩
  have EN : Hid ((K v c).length = n) := hn
  rw [hn] at k1 hl
  have hc7' : (c : Int) < 7 := by omega
  have hc0 : (0 : Int) ≤ (c : Int) := by omega
  have hhb := hlt h.hrow
  obtain ⟨r, hr⟩ : ∃ r, decide (∃ y ∈ K v c, (y : Int) = (x : Nat)) = r := ⟨_, rfl⟩
  have HR : Hid (decide (∃ y ∈ K v c, (y : Int) = (x : Nat)) = r) := hr
  obtain ⟨wa, hwa⟩ : ∃ wa, (w.alloc (.cells #[.int .i64 (x : Nat)] 3)).drew = wa := ⟨_, rfl⟩
  have BA : Hid (Below w.heap.size w wa) := by rw [← hwa]; exact ((Below.refl _ w).alloc (Nat.le_refl _) _).drew
  have QA : Hid (wa.heap[w.heap.size]? = some (.cells #[numV x] 3 (0, 0))) := by show _ = _; rw [← hwa]; exact Go.heap_alloc_new w _
  have HWA : Hid ((w.alloc (.cells #[.int .i64 (x : Nat)] 3)).drew = wa) := hwa
  have c1a : (w.alloc (.cells #[.int .i64 (x : Nat)] 3)).cell? ⟨hb, v * 7 + c, none⟩ = some (.slice ak n ck) := bcell ((Below.refl _ w).alloc (Nat.le_refl _) _) k1
  have VS : Hid (VAt w (fun j => L j = 6 + 2 * (v * 7 + c) ∨ w.heap.size ≤ j) 3 ak ((K v c).map numV) ck) := k3.mono (fun i _ e => .inl e)
  have OB : Hid (∀ g, ob ak = some g → L g = 6 + 2 * (v * 7 + c) ∧ g < w.heap.size) := fun g hg => k3.ob_in g hg
  clear h k3 hs hn hr hwa
  go_enter Tryz.func61, Tryz.ntmps61
  go_wp2_with fail
  refine (bins_q _ ak ck n (K v c) (x : Nat) _ KV.out HS.out (by rw [EN.out]; omega) EN.out r HR.out).mono ?_
  rintro e w1 ⟨i, rfl, hB, rfl⟩
  have BR : Hid (BinR (K v c) (x : Nat) i) := hB
  have hi := hB.le
  rw [EN.out] at hi
  clear hB
  have IC : Hid (Calls Tryz.prog 94 #[.slice ak n ck, .int .i64 (i : Nat), .slice (some ⟨w.heap.size, 0, none⟩) 1 1] ((w.alloc (.cells #[.int .i64 (x : Nat)] 3)).drew) fun e w' => ∃ a' cap', e = .returned (.slice a' (n + 1) cap') ∧ VAt w' (fun j => L j = 6 + 2 * (v * 7 + c) ∨ w.heap.size ≤ j) 3 a' (((K v c).map numV).take i ++ numV x :: ((K v c).map numV).drop i) cap' ∧ Tu (fun k => ob ak = some k) ((w.alloc (.cells #[.int .i64 (x : Nat)] 3)).drew) w' ∧ (ob a' = ob ak ∨ ob a' = some ((w.alloc (.cells #[.int .i64 (x : Nat)] 3)).drew).heap.size)) := by
    show Calls _ _ _ _ _
    rw [HWA.out]
    exact insI_q _ ak w.heap.size _ n ck i (numV x) wa (VS.out.keep BA.out) (fun j hj => .inr (Nat.le_trans BA.out.size hj)) (by rw [List.length_map]; exact EN.out) hi (by omega) (nums_one _) rfl QA.out (fun g hg => by have := (OB.out g hg).2; omega)
  go_wp2_with fail
  go_region_law (refine step_call rfl 94 _ _ rfl [.slice ak n ck, .int .i64 (i : Nat), .slice (some ⟨w.heap.size, 0, none⟩) 1 1] (by simp [Act.eval]) _ IC.out ent_insI ?_; rintro e w4 ⟨a', cap', rfl, r1, r2, r3⟩; refine ⟨_, rfl, ?_⟩; have T4 : Hid (Tu (fun j => L j = 6 + 2 * (v * 7 + c) ∨ w.heap.size ≤ j) w w4) := (by rw [HWA.out] at r2; exact (Tu.ofBelow BA.out).trans (r2.mono (fun j _ hj => .inl (OB.out j hj).1))); have V4 : Hid (VAt w4 (fun j => L j = 6 + 2 * (v * 7 + c) ∨ w.heap.size ≤ j) 3 a' (((K v c).take i ++ x :: (K v c).drop i).map numV) cap') := (by rw [nums_ins]; exact r1); have NH : Hid (¬ (L hb = 6 + 2 * (v * 7 + c) ∨ w.heap.size ≤ hb)) := (by have := HC.out.lh; show ¬ _; omega); have c4 : w4.cell? ⟨hb, v * 7 + c, none⟩ = some (.slice ak n ck) := (by rw [T4.out.cell NH.out hhb]; exact k1); have y4 : w4.frozen? ⟨hb, v * 7 + c, none⟩ = false := (frozen_of_row _ _ _ _ _ (T4.out.block hb _ HC.out.hrow NH.out)); clear r1 r2 r3)
  all_goals
    go_wp2
    go_end0
    have hE := lab_ext w L (6 + 2 * (v * 7 + c))
    obtain ⟨C9, M9⟩ := HC.out.shelf_put hE v c hv hc T4.out a' ((K v c).take i ++ x :: (K v c).drop i) cap' (V4.out.mono (fun k _ hk => by
      unfold lab; split
      · rcases hk with e | e
        · exact e
        · omega
      · rfl))
    have hlen : ((K v c).take i ++ x :: (K v c).drop i).length = n + 1 := by simp [EN.out]; omega
    rw [hlen] at C9 M9
    exact ⟨rfl, i, _, _, BR.out, C9, M9⟩
end Go.Proofs.YtgmljgogmbaioaaGreatDoor

/- What end and Give do. -/
namespace Go.Proofs.YtgmljgogmbaioaaGreatDoor
open Go.RowKit
set_option linter.unusedVariables false
set_option maxRecDepth 4000

theorem ent_page : (match Tryz.prog.funcs[79]? with | some fn => !(fn.name == "runtime.NumGoroutine") && !fn.body.isNone | none => false) = true := by kernel_rfl
theorem ent_pages : (match Tryz.prog.funcs[82]? with | some fn => !(fn.name == "runtime.NumGoroutine") && !fn.body.isNone | none => false) = true := by kernel_rfl
theorem ent_ugive : (match Tryz.prog.funcs[93]? with | some fn => !(fn.name == "runtime.NumGoroutine") && !fn.body.isNone | none => false) = true := by kernel_rfl
set_option maxHeartbeats 1000000 in
theorem kend_any (L : Nat → Nat) (cb fb hb : Nat) (a : Option Addr) (cap : Nat) (ps : List Nat) (sh : List Value) (P W : Nat) (φ : Nat → Bool) (m : List Sg) (K : Nat → Nat → List Nat) (p : Nat) (s : Sg) (w : World) (h : Cm w L cb fb hb a cap ps sh P W φ m K) (hbx : Bx w p (s.pg : Int) (s.cl : Int) (s.bts : Int)) (rt : Rt (s.pg : Int) (s.cl : Int) (s.bts : Int)) (hP : P ≤ 4096) (hle : s.pg + s.k ≤ P) (hall : AllF φ s.pg s.k true) :
    Calls Tryz.prog 59 #[.pointer (some ⟨cb, 0, none⟩), .pointer (some ⟨p, 0, none⟩)] w fun e w' => e = .returned (.tuple #[]) ∧ Cm w' (lab L w.heap.size 2) cb fb hb a cap ps sh P W (turnU φ s.pg s.k false) m K ∧ Tu (fun k => L k = 2 ∨ w.heap.size ≤ k) w w' := by
  have HC : Hid (Cm w L cb fb hb a cap ps sh P W φ m K) := h
  have HB : Hid (Bx w.drew p (s.pg : Int) (s.cl : Int) (s.bts : Int)) := hbx.drew
  have HTC : Hid (TabC w.drew) := h.tab.1
  have c0 := h.cell0
  have FR : Hid (IsR w.drew (fun j => L j = 2 ∨ w.heap.size ≤ j) fb P φ) := (h.free.mono (fun i _ e => .inl e)).drew
  have h0 := rt.c0
  have h7 := rt.c7
  obtain ⟨k, hk⟩ : ∃ k, s.k = k := ⟨_, rfl⟩
  have EK : Hid (pgsN (s.cl : Int) (s.bts : Int) = k) := hk
  have hk1 : 1 ≤ k := by have := rt.facts.2.2.2.2.2.2.1; have e : s.k = pgsN (s.cl : Int) (s.bts : Int) := rfl; omega
  rw [hk] at hle hall ⊢
  have HALL : Hid (AllF φ s.pg k true) := hall
  have PC : Hid (Calls Tryz.prog 82 #[.pointer (some ⟨p, 0, none⟩)] w.drew fun e w' => e = .returned (.int .i64 (k : Nat)) ∧ w' = w.drew) := (pages_q p _ _ _ k w.drew HB.out HTC.out h0 h7 EK.out)
  clear h hbx rt hall hk
  go_enter Tryz.func59, Tryz.ntmps59
  go_wp2_with fail
  go_region_law (first
    | (refine step_call rfl 79 _ _ rfl [.pointer (some ⟨p, 0, none⟩)] (by simp [Act.eval, Act.put]) _ (page_any p _ _ _ w.drew HB.out) ent_page ?_; rintro e w2 ⟨rfl, rfl⟩; refine ⟨_, rfl, ?_⟩)
    | (refine step_call rfl 82 _ _ rfl [.pointer (some ⟨p, 0, none⟩)] (by simp [Act.eval]) _ PC.out ent_pages ?_; rintro e w2 ⟨rfl, rfl⟩; refine ⟨_, rfl, ?_⟩)
    | (refine step_call rfl 93 _ _ rfl [.pointer (some ⟨fb, 0, none⟩), .int .i64 (s.pg : Int), .int .i64 (k : Int)] (by simp [Act.eval]) _ (ugive_any _ fb P φ (s.pg : Int) (k : Int) w.drew FR.out (fun i hi => .inr hi) (by omega) (by omega) (by omega)) ent_ugive ?_; rintro e w2 ⟨r, f', rfl, hU, i1, t1⟩; refine ⟨_, rfl, ?_⟩; have HU : Hid (TurnR P φ (s.pg : Int) (k : Int) false r f') := hU; have I1 : Hid (IsR w2 (fun j => L j = 2 ∨ w.heap.size ≤ j) fb P f') := i1; have T1 : Hid (Tu (fun j => L j = 2 ∨ w.heap.size ≤ j) w.drew w2) := t1; clear hU i1 t1))
  all_goals
    go_wp2
    go_end0
    have T1' : Tu (fun j => L j = 2 ∨ w.heap.size ≤ j) w w2 := ⟨T1.out.os, T1.out.tape, T1.out.output, T1.out.size, T1.out.block⟩
    obtain ⟨_, rfl⟩ : r = 0 ∧ f' = turnU φ s.pg k false := HU.out.one (.inr (.inr ⟨by omega, by omega, by omega, by rw [Int.toNat_natCast, Int.toNat_natCast]; exact HALL.out, rfl, by rw [Int.toNat_natCast, Int.toNat_natCast]⟩))
    refine ⟨rfl, HC.out.freed (lab_ext w L 2) T1' (I1.out.mono (fun i _ hi => ?_)), T1'⟩
    unfold lab; split
    · rcases hi with e | e
      · exact e
      · omega
    · rfl
end Go.Proofs.YtgmljgogmbaioaaGreatDoor
