/- Layer 21: a manifest's bytes. -/
import Derived.Test.YtofmicbhheebiaaDoorMnA
namespace Go.Proofs.YtofmicbhheebiaaDoor
open Go.RowKit
set_option linter.unusedVariables false
set_option maxRecDepth 4000

/-- Cells of other things than bytes stay. -/
structure Kb (w w' : World) : Prop where
  size : w.heap.size ≤ w'.heap.size
  keep : ∀ (k : Nat) (cs : Array Value) (t : TypeId) (z : Nat × Nat), w.heap[k]? = some (.cells cs t z) → t ≠ 5 → w'.heap[k]? = some (.cells cs t z)
theorem Kb.refl (w : World) : Kb w w := ⟨Nat.le_refl _, fun _ _ _ _ h _ => h⟩
theorem Kb.trans {a b c : World} (h : Kb a b) (k : Kb b c) : Kb a c := ⟨Nat.le_trans h.size k.size, fun i cs t z hi ht => k.keep i cs t z (h.keep i cs t z hi ht) ht⟩
theorem Kb.ofBelow {w w' : World} (h : Below w.heap.size w w') : Kb w w' := ⟨h.size, fun k cs t z hk _ => by rw [h.block k (Array.getElem?_eq_some_iff.1 hk).1]; exact hk⟩
theorem Kb.ofOnly {g : Nat} {l : List Int} {w w' : World} (h : Only g w w') (r : RowB w g 5 l) : Kb w w' := ⟨Nat.le_of_eq h.size.symm, fun k cs t z hk ht => by
  rw [h.block k (fun e => by
    subst e
    have e2 := hk.symm.trans r
    injection e2 with e3
    injection e3 with _ e4 _
    exact ht e4)]
  exact hk⟩

theorem ofDrewM {w w' : World} (h : Below w.drew.heap.size w.drew w') : Below w.heap.size w w' := ⟨h.os, h.tape, h.output, h.size, h.block⟩
theorem mput4_any (n : Int) (h0 : 0 ≤ n) (h1 : n ≤ 18446744073709551615) (w : World) :
    Calls Tryd.prog 39 #[.int .u64 n, .int .i64 4] w fun e w' => e = .returned (.slice (some ⟨w.heap.size, 0, none⟩) 4 4) ∧ RowB w' w.heap.size 5 (putL 4 n) ∧ Below w.heap.size w w' := by
  refine (put_any n 4 h0 h1 w).mono ?_
  rintro e w' ⟨rfl, rfl⟩
  exact ⟨rfl, Go.heap_alloc_new w _, (Below.refl _ w).alloc (Nat.le_refl _) _⟩

/-- Four bytes laid over others. -/
def ovM (L : List Int) (k : Nat) (n : Int) : List Int := L.take k ++ (putL 4 n).take 4 ++ L.drop (k + 4)
theorem ovM_len {L : List Int} {k : Nat} {n : Int} (hL : L.length = 64) (hk : k ≤ 60) : (ovM L k n).length = 64 := by
  simp [ovM, hL, putL_len]; omega
theorem ovM_zs (A : List Int) (j k : Nat) (n : Int) (hA : A.length = k) : ovM (A ++ List.replicate (j + 4) 0) k n = A ++ (putL 4 n ++ List.replicate j 0) := by
  unfold ovM
  rw [List.take_left' hA, List.take_of_length_le (by rw [putL_len]; exact Nat.le_refl _), ← List.drop_drop, List.drop_left' hA, List.drop_replicate, List.append_assoc, Nat.add_sub_cancel]
theorem ov_head (m : Mn) : ovM (ovM (ovM zeros 0 m.s) 4 m.f) 8 m.n = hdM m ++ List.replicate 8 0 := by
  have e0 : ovM zeros 0 m.s = putL 4 m.s ++ List.replicate 60 0 := ovM_zs [] 60 0 m.s rfl
  have e1 : ovM (putL 4 m.s ++ List.replicate 60 0) 4 m.f = (putL 4 m.s ++ putL 4 m.f) ++ List.replicate 56 0 := by
    rw [ovM_zs (putL 4 m.s) 56 4 m.f (putL_len _ _), List.append_assoc]
  have e2 : ovM ((putL 4 m.s ++ putL 4 m.f) ++ List.replicate 56 0) 8 m.n = (putL 4 m.s ++ putL 4 m.f) ++ (putL 4 m.n ++ List.replicate 52 0) := ovM_zs (putL 4 m.s ++ putL 4 m.f) 52 8 m.n (by simp [putL_len])
  rw [e0, e1, e2]
  unfold hdM
  simp only [List.append_assoc, List.replicate_append_replicate]
theorem ov_all (m : Mn) : ovM (ovM (hdM m ++ List.replicate 8 0) 56 (sumI (hdM m))) 60 m.s = manM m := by
  rw [ovM_zs (hdM m) 4 56 _ (hdM_len m), ← List.append_assoc]
  have := ovM_zs (hdM m ++ putL 4 (sumI (hdM m))) 0 60 m.s (by simp [hdM_len, putL_len])
  rw [this]
  simp [manM]

set_option maxRecDepth 20000 in
set_option maxHeartbeats 4000000 in
/-- put: four bytes laid over those of the captured slice. -/
theorem mbytes1_any (B N k : Nat) (n : Int) (L : List Int) (w : World) (hB : w.heap[B]? = some (.cells #[.slice (some ⟨N, 0, none⟩) 64 64] 22 (0, 0))) (hN : RowB w N 5 L) (hL : L.length = 64) (hk : k ≤ 60) (h0 : 0 ≤ n) (h1 : n ≤ 18446744073709551615) :
    Calls Tryd.prog 38 #[.int .i64 (k : Nat), .int .u64 n, .pointer (some ⟨B, 0, none⟩)] w fun e w' => e = .returned (.tuple #[]) ∧ RowB w' N 5 (ovM L k n) ∧ Kb w w' ∧ Below N w w' := by
  have cB : w.cell? ⟨B, 0, none⟩ = some (.slice (some ⟨N, 0, none⟩) 64 64) := cell_of_row _ _ 0 _ _ _ hB
  have CB : Hid (w.cell? ⟨B, 0, none⟩ = some (.slice (some ⟨N, 0, none⟩) 64 64)) := cB
  have BW : Hid (B < w.heap.size) := (Array.getElem?_eq_some_iff.1 hB).1
  have BN : Hid (B ≠ N) := by
    rintro rfl
    have e2 := hB.symm.trans hN
    injection e2 with e3
    injection e3 with _ e4 _
    exact absurd e4 (by decide)
  have HR : Hid (RowB w N 5 L) := hN
  have HL : Hid (L.length = 64) := hL
  have NW : Hid (N < w.heap.size) := hN.lt
  have n4 : (putL 4 n).length = 4 := putL_len 4 n
  have N4 : Hid (AllB (putL 4 n)) := putL_allB 4 n
  have hk64 : (k : Int) < 64 := by omega
  have hk65 : (k : Int) ≤ 64 := by omega
  have M4 : Hid ((4 : Nat) = min 4 (64 - k)) := by show _ = _; omega
  clear hB hN hL
  go_enter Tryd.func38, Tryd.ntmps38
  go_region_held3 (fun w' => w'.cell? ⟨B, 0, none⟩ = some (.slice (some ⟨N, 0, none⟩) 64 64)) (first | assumption | go_keep)
    (first
      | (go_at_call 39; refine (mput4_any n h0 h1 _).mono ?_; rintro e w2 ⟨rfl, r2, b2⟩; have Q2 : Hid (RowB w2 w.heap.size 5 (putL 4 n)) := r2; have B2 : Hid (Below w.heap.size w w2) := ofDrewM b2; have R2 : Hid (RowB w2 N 5 L) := HR.out.keep B2.out; have q2 : w2.cell? ⟨B, 0, none⟩ = some (.slice (some ⟨N, 0, none⟩) 64 64) := (B2.out.cell (p := ⟨B, 0, none⟩) BW.out).trans CB.out; have Q3 : Hid (w2.cell? ⟨B, 0, none⟩ = some (.slice (some ⟨N, 0, none⟩) 64 64)) := q2; clear r2 b2)
      | (refine step_copyB rfl _ _ rfl N k (64 - k) (64 - k) 5 L (putL 4 n) (some ⟨w.heap.size, 0, none⟩) 4 4 4 rfl rfl n4.symm M4.out R2.out (Q2.out.isB N4.out) (by rw [HL.out]; omega) ?_; intro w3 r3 o3; have R3 : Hid (RowB w3 N 5 (ovM L k n)) := r3; have B3 : Hid (Below N w w3) := (B2.out.mono (Nat.le_of_lt NW.out)).trans (o3.below (Nat.le_refl _)); have q3 : w3.cell? ⟨B, 0, none⟩ = some (.slice (some ⟨N, 0, none⟩) 64 64) := (o3.cell (p := ⟨B, 0, none⟩) BN.out).trans Q3.out; have K3 : Hid (Kb w w3) := (Kb.ofBelow B2.out).trans (Kb.ofOnly o3 R2.out); clear r3 o3))
  go_wp2
  go_end0
  exact ⟨rfl, R3.out, K3.out, B3.out⟩

def outM (m : Mn) : List Int := if okM m = true then manM m else []
def errM (m : Mn) : Int := if okM m = true then 0 else 4
theorem neqM (w : World) (m : Mn) (v : Bool) (hv : okM m = v) : (binOp .neq 48 m.v (nearM m).v).run Tryd.prog w = .ok (.bool (!v)) w := by
  have e := inM 48 w m (nearM m) (by kernel_rfl) (by kernel_rfl) rfl
  rw [nearM_ok, hv] at e
  unfold Mn.v at e ⊢
  rw [run_neq_struct, e]
  rfl
theorem bbox21 (w : World) (g : Nat) : ∃ D, w.alloc (.cells #[.slice (some ⟨g, 0, none⟩) 64 64] 22) = D ∧ D.heap[w.heap.size]? = some (.cells #[.slice (some ⟨g, 0, none⟩) 64 64] 22 (0, 0)) ∧ Below w.heap.size w D :=
  ⟨_, rfl, Go.heap_alloc_new w _, (Below.refl _ w).alloc (Nat.le_refl _) _⟩
set_option maxRecDepth 20000 in
set_option maxHeartbeats 4000000 in
theorem mbytes_bad (m : Mn) (w : World) (hm : okM m = false) :
    Calls Tryd.prog 17 #[m.v] w fun e w' => e = .returned (.tuple #[.slice none 0 0, .int .i64 4]) ∧ Below w.heap.size w w' := by
  have NE : Hid (∀ w : World, (binOp .neq 48 m.v (nearM m).v).run Tryd.prog w = .ok (.bool true) w) := fun w => neqM w m false hm
  have NR : Hid (∀ w : World, Calls Tryd.prog 37 #[m.v] w fun e w' => e = .returned (nearM m).v ∧ Below w.heap.size w w') := fun w => mnearest_any m w
  obtain ⟨⟨s', f', n'⟩, hn⟩ : ∃ q, nearM m = q := ⟨_, rfl⟩
  rw [hn] at NE NR
  clear hn hm
  obtain ⟨s, f, n⟩ := m
  obtain ⟨D, hD, rD, bD⟩ := box21 48 w s f n
  have NQ := NE.out
  have HD : Hid _ := hD
  have BD : Hid (Below w.heap.size w D) := bD
  have LD : Hid (w.heap.size < D.heap.size) := (Array.getElem?_eq_some_iff.1 rD).1
  have RD : Hid (D.heap[w.heap.size]? = some (.cells #[.int .i64 s, .int .i64 f, .int .i64 n] 48 (0, 0))) := rD
  obtain ⟨y0, y1, y2⟩ := three21 rD
  unfold Mn.v at NQ NR
  clear NE hD rD bD
  unfold Mn.v
  go_enter Tryd.func17, Tryd.ntmps17
  go_upto_region 1 with (fail)
  rw [HD.out]
  go_region_held3 (fun w' => w'.cell? ⟨w.heap.size, 0, none⟩ = some (.int .i64 s) ∧ w'.cell? ⟨w.heap.size, 1, none⟩ = some (.int .i64 f) ∧ w'.cell? ⟨w.heap.size, 2, none⟩ = some (.int .i64 n)) (first | (refine ⟨?_, ?_, ?_⟩ <;> assumption) | go_keep)
    ((go_at_call 37; refine Calls.mono (NR.out _) ?_; rintro e w2 ⟨rfl, b2⟩; have B2 : Hid (Below D.heap.size D w2) := ofDrewM b2; have r2 : w2.heap[w.heap.size]? = some (.cells #[.int .i64 s, .int .i64 f, .int .i64 n] 48 (0, 0)) := (by rw [B2.out.block _ LD.out]; exact RD.out); clear y0 y1 y2; obtain ⟨y0, y1, y2⟩ := three21 r2; have C2 : Hid (Below w.heap.size w w2) := BD.out.trans (B2.out.mono (Nat.le_of_lt LD.out)); clear b2))
  go_wp2
  go_ret2
  exact ⟨rfl, C2.out⟩
end Go.Proofs.YtofmicbhheebiaaDoor
