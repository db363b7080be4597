/- What put and end do. -/
import Derived.Test.YtgmljgogmbaioabGreatDoorKaN
import Derived.Test.YtgmljgogmbaioabGreatDoorPuC
namespace Go.Proofs.YtgmljgogmbaioabGreatDoor
open Go.RowKit
set_option linter.unusedVariables false
set_option maxRecDepth 4000

theorem ent_insI : (match Tryz.prog.funcs[47]? with | some fn => !(fn.name == "runtime.NumGoroutine") && !fn.body.isNone | none => false) = true := by kernel_rfl
theorem insI_q (S : Nat → Prop) (a : Option Addr) (q : Nat) (l : List Value) (n cap i : Nat) (v : Value) (w : World) (h : VAt w S 3 a l cap) (hS : ∀ k, w.heap.size ≤ k → S k) (hn : l.length = n) (hi : i ≤ n) (hl : n ≤ 100000) (h1 : ∀ v ∈ l, v.oneCell' = true) (hv : v.oneCell' = true) (hq : w.heap[q]? = some (.cells #[v] 3 (0, 0))) (hne : ∀ g, ob a = some g → q ≠ g) :
    Calls Tryz.prog 47 #[.slice a n cap, .int .i64 (i : Nat), .slice (some ⟨q, 0, none⟩) 1 1] w fun e w' => ∃ a' cap', e = .returned (.slice a' (n + 1) cap') ∧ VAt w' S 3 a' (l.take i ++ v :: l.drop i) cap' ∧ Tu (fun k => ob a = some k) w w' ∧ (ob a' = ob a ∨ ob a' = some w.heap.size) := by
  subst hn; exact insI_any S a q l cap i v w h hS hi hl h1 hv hq hne
theorem nums_ins (l : List Nat) (i x : Nat) : (l.take i ++ x :: l.drop i).map numV = (l.map numV).take i ++ numV x :: (l.map numV).drop i := by rw [List.map_append, List.map_cons, List.map_take, List.map_drop]
set_option maxHeartbeats 1000000 in
theorem kput_any (L : Nat → Nat) (cb fb hb : Nat) (a : Option Addr) (cap : Nat) (ps : List Nat) (sh : List Value) (P W : Nat) (φ : Nat → Bool) (m : List Sg) (K : Nat → Nat → List Nat) (v c x : Nat) (w : World) (h : Cm w L cb fb hb a cap ps sh P W φ m K) (hv : v < W) (hc : c < 7) (hs : (K v c).Pairwise (· < ·)) (hl : (K v c).length ≤ 99999) :
    Calls Tryz.prog 22 #[.pointer (some ⟨hb, v * 7, none⟩), .int .i64 (c : Nat), .int .i64 (x : Nat)] w fun e w' => e = .returned (.tuple #[]) ∧ ∃ i L' sh', BinR (K v c) (x : Nat) i ∧ Cm w' L' cb fb hb a cap ps sh' P W φ m (upd K v c ((K v c).take i ++ x :: (K v c).drop i)) ∧ Mv L w L' w' := by
  obtain ⟨ak, ck, k1, k2, k3⟩ := h.kept v c hv hc
  have HC : Hid (Cm w L cb fb hb a cap ps sh P W φ m K) := h
  have KV : Hid (VAt w (fun k => L k = 6 + 2 * (v * 7 + c)) 3 ak ((K v c).map numV) ck) := k3
  have HS : Hid ((K v c).Pairwise (· < ·)) := hs
  obtain ⟨n, hn⟩ : ∃ n, (K v c).length = n := ⟨_, rfl⟩
  have EN : Hid ((K v c).length = n) := hn
  rw [hn] at k1 hl
  have hc7' : (c : Int) < 7 := by omega
  have hc0 : (0 : Int) ≤ (c : Int) := by omega
  have hhb := hlt h.hrow
  obtain ⟨r, hr⟩ : ∃ r, decide (∃ y ∈ K v c, (y : Int) = (x : Nat)) = r := ⟨_, rfl⟩
  have HR : Hid (decide (∃ y ∈ K v c, (y : Int) = (x : Nat)) = r) := hr
  obtain ⟨wa, hwa⟩ : ∃ wa, (w.alloc (.cells #[.int .i64 (x : Nat)] 3)).drew = wa := ⟨_, rfl⟩
  have BA : Hid (Below w.heap.size w wa) := by rw [← hwa]; exact ((Below.refl _ w).alloc (Nat.le_refl _) _).drew
  have QA : Hid (wa.heap[w.heap.size]? = some (.cells #[numV x] 3 (0, 0))) := by show _ = _; rw [← hwa]; exact Go.heap_alloc_new w _
  have HWA : Hid ((w.alloc (.cells #[.int .i64 (x : Nat)] 3)).drew = wa) := hwa
  have c1a : (w.alloc (.cells #[.int .i64 (x : Nat)] 3)).cell? ⟨hb, v * 7 + c, none⟩ = some (.slice ak n ck) := bcell ((Below.refl _ w).alloc (Nat.le_refl _) _) k1
  have VS : Hid (VAt w (fun j => L j = 6 + 2 * (v * 7 + c) ∨ w.heap.size ≤ j) 3 ak ((K v c).map numV) ck) := k3.mono (fun i _ e => .inl e)
  have OB : Hid (∀ g, ob ak = some g → L g = 6 + 2 * (v * 7 + c) ∧ g < w.heap.size) := fun g hg => k3.ob_in g hg
  clear h k3 hs hn hr hwa
  go_enter Tryz.func22, Tryz.ntmps22
  go_wp2_with fail
  refine (bins_q _ ak ck n (K v c) (x : Nat) _ KV.out HS.out (by rw [EN.out]; omega) EN.out r HR.out).mono ?_
  rintro e w1 ⟨i, rfl, hB, rfl⟩
  have BR : Hid (BinR (K v c) (x : Nat) i) := hB
  have hi := hB.le
  rw [EN.out] at hi
  clear hB
  have IC : Hid (Calls Tryz.prog 47 #[.slice ak n ck, .int .i64 (i : Nat), .slice (some ⟨w.heap.size, 0, none⟩) 1 1] ((w.alloc (.cells #[.int .i64 (x : Nat)] 3)).drew) fun e w' => ∃ a' cap', e = .returned (.slice a' (n + 1) cap') ∧ VAt w' (fun j => L j = 6 + 2 * (v * 7 + c) ∨ w.heap.size ≤ j) 3 a' (((K v c).map numV).take i ++ numV x :: ((K v c).map numV).drop i) cap' ∧ Tu (fun k => ob ak = some k) ((w.alloc (.cells #[.int .i64 (x : Nat)] 3)).drew) w' ∧ (ob a' = ob ak ∨ ob a' = some ((w.alloc (.cells #[.int .i64 (x : Nat)] 3)).drew).heap.size)) := by
    show Calls _ _ _ _ _
    rw [HWA.out]
    exact insI_q _ ak w.heap.size _ n ck i (numV x) wa (VS.out.keep BA.out) (fun j hj => .inr (Nat.le_trans BA.out.size hj)) (by rw [List.length_map]; exact EN.out) hi (by omega) (nums_one _) rfl QA.out (fun g hg => by have := (OB.out g hg).2; omega)
  go_wp2_with fail
  go_region_law (refine step_call rfl 47 _ _ rfl [.slice ak n ck, .int .i64 (i : Nat), .slice (some ⟨w.heap.size, 0, none⟩) 1 1] (by simp [Act.eval]) _ IC.out ent_insI ?_; rintro e w4 ⟨a', cap', rfl, r1, r2, r3⟩; refine ⟨_, rfl, ?_⟩; have T4 : Hid (Tu (fun j => L j = 6 + 2 * (v * 7 + c) ∨ w.heap.size ≤ j) w w4) := (by rw [HWA.out] at r2; exact (Tu.ofBelow BA.out).trans (r2.mono (fun j _ hj => .inl (OB.out j hj).1))); have V4 : Hid (VAt w4 (fun j => L j = 6 + 2 * (v * 7 + c) ∨ w.heap.size ≤ j) 3 a' (((K v c).take i ++ x :: (K v c).drop i).map numV) cap') := (by rw [nums_ins]; exact r1); have NH : Hid (¬ (L hb = 6 + 2 * (v * 7 + c) ∨ w.heap.size ≤ hb)) := (by have := HC.out.lh; show ¬ _; omega); have c4 : w4.cell? ⟨hb, v * 7 + c, none⟩ = some (.slice ak n ck) := (by rw [T4.out.cell NH.out hhb]; exact k1); have y4 : w4.frozen? ⟨hb, v * 7 + c, none⟩ = false := (frozen_of_row _ _ _ _ _ (T4.out.block hb _ HC.out.hrow NH.out)); clear r1 r2 r3)
  all_goals
    go_wp2
    go_end0
    have hE := lab_ext w L (6 + 2 * (v * 7 + c))
    obtain ⟨C9, M9⟩ := HC.out.shelf_put hE v c hv hc T4.out a' ((K v c).take i ++ x :: (K v c).drop i) cap' (V4.out.mono (fun k _ hk => by
      unfold lab; split
      · rcases hk with e | e
        · exact e
        · omega
      · rfl))
    have hlen : ((K v c).take i ++ x :: (K v c).drop i).length = n + 1 := by simp [EN.out]; omega
    rw [hlen] at C9 M9
    exact ⟨rfl, i, _, _, BR.out, C9, M9⟩
end Go.Proofs.YtgmljgogmbaioabGreatDoor
