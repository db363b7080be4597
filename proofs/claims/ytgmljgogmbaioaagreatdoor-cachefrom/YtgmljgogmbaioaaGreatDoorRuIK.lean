/- What cut does. -/
import Derived.Test.YtgmljgogmbaioaaGreatDoorRuGH
import Derived.Deep.CutRange
import Derived.Laws.MakeOwn
import Derived.RegionTactic
namespace Go.Proofs.YtgmljgogmbaioaaGreatDoor
open Go.RowKit
set_option linter.unusedVariables false
set_option maxRecDepth 4000


theorem At.fresh {w w' : World} {S : Nat → Prop} {b n : Nat} {L : List (Nat × Nat)} (h : At w S b n L) (g : Nat) (hb : Below w.heap.size w w') (hg : w.heap.size ≤ g) : At w' (fun k => S k ∧ k ≠ g) b n L := by
  have := (h.mono (T := fun k => S k ∧ k ≠ g) (fun i hi hs => ⟨hs, by omega⟩))
  exact this.keep hb
theorem keepA {W : World} {p : Addr} {v : Value} {o : Obj} (h : W.drew.cell? p = some v) : (W.alloc o).drew.cell? p = some v := Lib.cell?_alloc_some (W := W) o h
theorem newA0 {W : World} {q : Nat} {v v' : Value} {t : TypeId} (hq : q = W.heap.size) : (W.alloc (.cells #[v, v'] t)).drew.cell? ⟨q, 0, none⟩ = some v := by subst hq; exact cell_of_row _ _ 0 _ _ _ (Go.heap_alloc_new W _)
theorem newA1 {W : World} {q : Nat} {v v' : Value} {t : TypeId} (hq : q = W.heap.size) : (W.alloc (.cells #[v, v'] t)).drew.cell? ⟨q, 1, none⟩ = some v' := by subst hq; exact cell_of_row _ _ 1 _ _ _ (Go.heap_alloc_new W _)
theorem belA {w W : World} {o : Obj} (h : Below w.heap.size w W.drew) : Below w.heap.size w (W.alloc o).drew := h.alloc h.size o
set_option maxHeartbeats 4000000 in
theorem cut_any (S : Nat → Prop) (b n i u k : Nat) (L : List (Nat × Nat)) (w : World) (h : At w S b n L) (hS : ∀ i, w.heap.size ≤ i → S i) (hi : i < L.length) (hl : L.length ≤ 65536) (h1 : L[i].1 ≤ u) (h2 : u + k ≤ L[i].1 + L[i].2) (h3 : L[i].1 + L[i].2 ≤ 65536) :
    Calls Tryz.prog 110 #[.pointer (some ⟨b, 0, none⟩), .int .i64 (i : Nat), .agg #[.int .i64 (u : Nat), .int .i64 (k : Nat)]] w fun e w' =>
      e = .returned (.tuple #[]) ∧ At w' S b n (L.take i ++ [(L[i].1, u - L[i].1), (u + k, L[i].1 + L[i].2 - (u + k))].filter notE ++ L.drop (i + 1)) ∧ Tu S w w' := by
  have H : Hid (At w S b n L) := h
  obtain ⟨a, cap, hB⟩ := h
  obtain ⟨g, rfl, _, hgl, d0, d1⟩ := hB.run hi
  have c1 := hB.cell1
  have hbl := hB.lt
  obtain ⟨x, hx⟩ : ∃ x, L[i] = x := ⟨_, rfl⟩
  rw [hx] at d0 d1 h1 h2 h3 ⊢
  obtain ⟨x1, x2⟩ := x
  simp only at d0 d1 h1 h2 h3 ⊢
  obtain ⟨s, hs⟩ : ∃ s, x1 + x2 = s := ⟨_, rfl⟩
  obtain ⟨t, ht⟩ : ∃ t, u + k = t := ⟨_, rfl⟩
  have ES : Hid (x1 + x2 = s) := hs
  have ET : Hid (u + k = t) := ht
  rw [hs, ht] at h2 ⊢
  rw [hs] at h3
  have hi' : (i : Int) < (L.length : Int) := by omega
  have hi0 : (0 : Int) ≤ (i : Int) := by omega
  have n0 := World.new_ne w ⟨g, i * 2, none⟩ d0
  have n1 := World.new_ne w ⟨b, 1, none⟩ c1
  have bx1 : x1 ≤ 65536 := by omega
  have bu : u ≤ 65536 := by omega
  have bt : t ≤ 65536 := by omega
  obtain ⟨wz, hwz⟩ : ∃ wz, ((w.alloc (.cells #[.int .i64 (u : Nat), .int .i64 (k : Nat)] 55)).alloc (.cells #[.int .i64 (x1 : Nat), .int .i64 (x2 : Nat)] 55)).alloc (.cells #[.int .i64 (x1 : Nat), .int .i64 ((u : Int) - (x1 : Int))] 55) = wz := ⟨_, rfl⟩
  have BZ : Hid (Below w.heap.size w wz) := by show Below _ _ _; rw [← hwz]; exact (((Below.refl _ w).alloc (Nat.le_refl _) _).alloc (by simp) _).alloc (by simp; omega) _
  have zz : wz.heap.size = w.heap.size + 3 := by rw [← hwz]; simp
  have q0 : wz.heap[w.heap.size]? = some (.cells #[.int .i64 (u : Nat), .int .i64 (k : Nat)] 55 (0, 0)) := by
    rw [← hwz, Below.heap_alloc _ _ _ (by simp; omega), Below.heap_alloc _ _ _ (by simp)]; exact Go.heap_alloc_new w _
  have q1 : wz.heap[w.heap.size + 1]? = some (.cells #[.int .i64 (x1 : Nat), .int .i64 (x2 : Nat)] 55 (0, 0)) := by
    rw [← hwz, Below.heap_alloc _ _ _ (by simp)]
    have := Go.heap_alloc_new (w.alloc (.cells #[.int .i64 (u : Nat), .int .i64 (k : Nat)] 55)) (.cells #[.int .i64 (x1 : Nat), .int .i64 (x2 : Nat)] 55)
    rwa [World.size_alloc] at this
  have q2 : wz.heap[w.heap.size + 2]? = some (.cells #[.int .i64 (x1 : Nat), .int .i64 ((u : Int) - (x1 : Int))] 55 (0, 0)) := by
    rw [← hwz]
    have := Go.heap_alloc_new ((w.alloc (.cells #[.int .i64 (u : Nat), .int .i64 (k : Nat)] 55)).alloc (.cells #[.int .i64 (x1 : Nat), .int .i64 (x2 : Nat)] 55)) (.cells #[.int .i64 (x1 : Nat), .int .i64 ((u : Int) - (x1 : Int))] 55)
    rwa [World.size_alloc, World.size_alloc] at this
  have r00 : wz.cell? ⟨w.heap.size, 0, none⟩ = some (.int .i64 (u : Nat)) := cell_of_row _ _ 0 _ _ _ q0
  have r01 : wz.cell? ⟨w.heap.size, 1, none⟩ = some (.int .i64 (k : Nat)) := cell_of_row _ _ 1 _ _ _ q0
  have r10 : wz.cell? ⟨w.heap.size + 1, 0, none⟩ = some (.int .i64 (x1 : Nat)) := cell_of_row _ _ 0 _ _ _ q1
  have r11 : wz.cell? ⟨w.heap.size + 1, 1, none⟩ = some (.int .i64 (x2 : Nat)) := cell_of_row _ _ 1 _ _ _ q1
  have r20 : wz.cell? ⟨w.heap.size + 1 + 1, 0, none⟩ = some (.int .i64 (x1 : Nat)) := cell_of_row _ _ 0 _ _ _ q2
  have r21 : wz.cell? ⟨w.heap.size + 1 + 1, 1, none⟩ = some (.int .i64 ((u : Int) - (x1 : Int))) := cell_of_row _ _ 1 _ _ _ q2
  have m0 := World.new_ne wz _ r00
  have m1 := World.new_ne wz _ r10
  have m2 := World.new_ne wz _ r20
  have HWR : Hid (IntKind.i64.wrap ((s : Int) - (t : Int)) = (s : Int) - (t : Int)) := by show _ = _; rw [IntKind.wrap_i64]; omega
  have ZZ : Hid (wz.heap.size = w.heap.size + 3) := zz
  clear hB hx hs ht zz q0 q1 q2
  go_enter Tryz.func110, Tryz.ntmps110
  go_upto_region 3 with fail
  go_cut [8] from 24 to 31 (fun v wx => ∃ q : Nat, v = .pointer (some ⟨q, 0, none⟩) ∧ wx.cell? ⟨q, 0, none⟩ = some (.int .i64 (t : Nat)) ∧ wx.cell? ⟨q, 1, none⟩ = some (.int .i64 ((s : Int) - (t : Int))) ∧ Below wz.heap.size wz wx)
  case first =>
    go_region_held3 (fun w' => w'.cell? ⟨w.heap.size, 0, none⟩ = some (.int .i64 (u : Nat)) ∧ w'.cell? ⟨w.heap.size, 1, none⟩ = some (.int .i64 (k : Nat)) ∧ w'.cell? ⟨w.heap.size + 1, 0, none⟩ = some (.int .i64 (x1 : Nat)) ∧ w'.cell? ⟨w.heap.size + 1, 1, none⟩ = some (.int .i64 (x2 : Nat))) (first | (refine ⟨?_, ?_, ?_, ?_⟩ <;> (repeat refine keepA ?_) <;> (first | exact r00 | exact r01 | exact r10 | exact r11)) | go_keep)
      (first
        | (go_at_call 109; refine (end_any u k _ (by have := ET.out; omega)).mono ?_; rw [ET.out]; rintro e w' ⟨rfl, rfl⟩)
        | (go_at_call 109; refine (end_any x1 x2 _ (by have := ES.out; omega)).mono ?_; rw [ES.out]; rintro e w' ⟨rfl, rfl⟩))
    all_goals
      go_wp2_with fail
      go_meet
      refine ⟨_, rfl, ?_, ?_, ?_⟩
      · repeat (first | exact newA0 (by simp) | refine keepA ?_)
      · rw [HWR.out]
        repeat (first | exact newA1 (by simp) | refine keepA ?_)
      · repeat (first | exact (Below.refl _ wz).drew | refine belA ?_)
  case rest =>
    obtain ⟨q, rfl, k0, k1, bw⟩ := hcut
    have e0 := bcell bw r20
    have e1 := bcell bw r21
    have BW : Hid (Below w.heap.size w wc) := BZ.out.trans (bw.mono BZ.out.size)
    obtain ⟨D, hD⟩ : ∃ D, wc.alloc (.cells #[.int .i64 (x1 : Nat), .int .i64 ((u : Int) - (x1 : Int)), .int .i64 (t : Nat), .int .i64 ((s : Int) - (t : Int))] 55) = D := ⟨_, rfl⟩
    have BD : Hid (Below w.heap.size w D) := by show Below _ _ _; rw [← hD]; exact BW.out.alloc BW.out.size _
    have RD : Hid (Row D wc.heap.size [(x1, u - x1), (t, s - t)]) := by
      show D.heap[wc.heap.size]? = _
      rw [← hD, Go.heap_alloc_new]
      simp only [cellsR]
      rw [Int.ofNat_sub h1, Int.ofNat_sub h2]
    have HD : Hid (wc.alloc (.cells #[.int .i64 (x1 : Nat), .int .i64 ((u : Int) - (x1 : Int)), .int .i64 (t : Nat), .int .i64 ((s : Int) - (t : Int))] 55) = D) := hD
    clear hD bw m0 m1 m2 r00 r01 r10 r11 r20 r21 hwz
    go_wp2_with fail
    rw [HD.out, show ((i : Int) + 1) = ((i + 1 : Nat) : Int) from rfl]
    refine (replace_any S b n wc.heap.size i (i + 1) L [(x1, u - x1), (t, s - t)] D (H.out.fresh _ BD.out BW.out.size) (fun k hk => hS k (by have := BD.out.size; omega)) RD.out (hS _ BW.out.size) (by omega) (by omega) (by omega) (by simp)).mono ?_
    rintro e w9 ⟨rfl, h9, t9⟩
    have H9 : Hid (At w9 S b n (L.take i ++ [(x1, u - x1), (t, s - t)].filter notE ++ L.drop (i + 1))) := h9
    have T9 : Hid (Tu S w w9) := (Tu.ofBelow BD.out).trans t9
    clear h9 t9
    go_wp2
    go_end0
    exact ⟨rfl, H9.out, T9.out⟩
end Go.Proofs.YtgmljgogmbaioaaGreatDoor

/- What Free, Copy and New answer. -/
namespace Go.Proofs.YtgmljgogmbaioaaGreatDoor
open Go.RowKit
set_option linter.unusedVariables false
set_option maxRecDepth 4000


theorem bcellK {w w' : World} {p : Addr} {v : Value} (hb : Below w.heap.size w w') (h : w.cell? p = some v) : w'.cell? p = some v := (hb.cell (World.block_lt_of_cell? w p h)).trans h
theorem made_R (n : Nat) : madeCells #[.int .i64 0, .int .i64 0] (n * 2) = (cellsR (List.replicate n (0, 0))).toArray := by
  rw [← zeroC_R]; rfl
theorem make_R (w : World) (n : Nat) (hn : n ≤ 1000000) : (Instr.makeSlice 50 (.int .i64 (n : Nat)) (.int .i64 (n : Nat))).run Tryz.prog w = .ok (.slice (some ⟨w.heap.size, 0, none⟩) n n) (w.alloc (.cells (cellsR (List.replicate n (0, 0))).toArray 55)) := by
  obtain ⟨i0, hi0, hz0, hs0, hb0⟩ := info_parts Tryz.info41
  have h := run_make (P := Tryz.prog) w 50 55 i0 _ Tryz.underlying50 hi0 hz0 .i64 .i64 (n : Int) (n : Int) (by omega) (Int.le_refl _) (by rw [hb0]; omega) (by omega)
  rw [h, hs0]
  simp only [Int.toNat_natCast, Value.cells, made_R]
set_option maxHeartbeats 1000000 in
theorem free_any (S : Nat → Prop) (b n : Nat) (f : Nat → Bool) (w : World) (h : IsR w S b n f) (hn : n ≤ 65536) :
    Calls Tryz.prog 56 #[.pointer (some ⟨b, 0, none⟩)] w fun e w' => e = .returned (.slice (some ⟨w.heap.size, 0, none⟩) (freeL f n).length (freeL f n).length) ∧ Row w' w.heap.size (freeL f n) ∧ Below w.heap.size w w' := by
  have hll := freeL_len f n
  unfold IsR at h
  obtain ⟨L, hL⟩ : ∃ L, freeL f n = L := ⟨_, rfl⟩
  rw [hL] at h hll ⊢
  clear hL
  obtain ⟨a, cap, hB⟩ := h
  have HB : Hid (Box w S b a cap n L) := hB
  have c1 := hB.cell1
  obtain ⟨wz, hwz⟩ : ∃ wz, w.alloc (.cells (cellsR (List.replicate L.length (0, 0))).toArray 55) = wz := ⟨_, rfl⟩
  have BZ : Hid (Below w.heap.size w wz) := by show Below _ _ _; rw [← hwz]; exact (Below.refl _ w).alloc (Nat.le_refl _) _
  have RZ : Hid (Row wz w.heap.size (List.replicate L.length (0, 0))) := by show wz.heap[w.heap.size]? = _; rw [← hwz]; exact Go.heap_alloc_new w _
  have LZ : Hid (UIsL wz a L) := (HB.out.keep BZ.out).row.isL
  have c2 := bcellK BZ.out c1
  have MK : ∀ w : World, (Instr.makeSlice 50 (.int .i64 (L.length : Nat)) (.int .i64 (L.length : Nat))).run Tryz.prog w = .ok (.slice (some ⟨w.heap.size, 0, none⟩) L.length L.length) (w.alloc (.cells (cellsR (List.replicate L.length (0, 0))).toArray 55)) := fun w => make_R w _ (by omega)
  clear hB
  go_enter Tryz.func56, Tryz.ntmps56
  go_wp2_with (refine wpList_copyR rfl _ _ rfl w.heap.size 0 _ _ (List.replicate L.length (0, 0)) L _ a _ _ L.length rfl rfl rfl (by simp) RZ.out LZ.out (by simp) (.inr (by simp)) ?_; intro w2 r2 o2; have R2 : Hid (Row w2 w.heap.size L) := (by have q := r2; simp at q; exact q); have B2 : Hid (Below w.heap.size w w2) := BZ.out.trans ⟨o2.os, o2.tape, o2.output, Nat.le_of_eq o2.size.symm, fun k hk => o2.block k (by omega)⟩; clear r2 o2)
  go_ret
  exact ⟨rfl, R2.out, B2.out⟩
theorem IsR.of {w : World} {S : Nat → Prop} {b n : Nat} {f : Nat → Bool} {L : List (Nat × Nat)} (h : At w S b n L) (hF : FL n f L) : IsR w S b n f := by rw [IsR, ← hF.eq]; exact h
set_option maxHeartbeats 1000000 in
theorem new_any (n : Nat) (w : World) (hn : n ≤ 65536) :
    Calls Tryz.prog 45 #[.int .i64 (n : Nat)] w fun e w' => e = .returned (.tuple #[.pointer (some ⟨w.heap.size, 0, none⟩), .int .i64 0]) ∧ IsR w' (fun k => w.heap.size ≤ k) w.heap.size n (fun _ => false) ∧ Below w.heap.size w w' := by
  obtain ⟨wz, hwz⟩ : ∃ wz, (w.alloc (.cells #[.int .i64 (n : Nat), .slice none 0 0] 113)).alloc (.cells #[.int .i64 0, .int .i64 (n : Nat)] 55) = wz := ⟨_, rfl⟩
  have BZ : Hid (Below w.heap.size w wz) := by show Below _ _ _; rw [← hwz]; exact ((Below.refl _ w).alloc (Nat.le_refl _) _).alloc (by simp) _
  have ZZ : Hid (wz.heap.size = w.heap.size + 2) := by show _ = _; rw [← hwz]; simp
  have AZ : Hid (At wz (fun k => w.heap.size ≤ k ∧ k ≠ w.heap.size + 1) w.heap.size n []) := by
    refine ⟨none, 0, ?_, ⟨Nat.le_refl _, by omega⟩, RowAt.nil _ _⟩
    rw [← hwz, Below.heap_alloc _ _ _ (by simp)]; exact Go.heap_alloc_new w _
  have RZ : Hid (Row wz (w.heap.size + 1) [(0, n)]) := by
    show wz.heap[w.heap.size + 1]? = _
    rw [← hwz]
    have := Go.heap_alloc_new (w.alloc (.cells #[.int .i64 (n : Nat), .slice none 0 0] 113)) (.cells #[.int .i64 0, .int .i64 (n : Nat)] 55)
    rw [World.size_alloc] at this
    rw [this]; rfl
  have h1 : ¬ ((n : Int) < 0) := by omega
  have h2 : ¬ ((65536 : Int) < (n : Int)) := by omega
  go_enter Tryz.func45, Tryz.ntmps45
  go_wp2_with fail
  refine (replace_any (fun k => w.heap.size ≤ k) w.heap.size n (w.heap.size + 1) 0 0 [] [(0, n)] wz AZ.out (fun k hk => by have := ZZ.out; omega) RZ.out (Nat.le_succ _) (Nat.le_refl _) (Nat.le_refl _) (by simp) (by simp)).mono ?_
  rintro e w1 ⟨rfl, h9, t9⟩
  have H9 : Hid (IsR w1 (fun k => w.heap.size ≤ k) w.heap.size n (fun _ => false)) := by
    show At _ _ _ _ _
    rw [← free_new]
    simpa using h9
  have B9 : Hid (Below w.heap.size w w1) := BZ.out.trans (t9.below (fun i hi => hi) BZ.out.size)
  clear h9 t9
  go_wp2
  go_ret2
  exact ⟨rfl, H9.out, B9.out⟩
theorem unew_bad (n : Int) (w : World) (h : n < 0 ∨ 65536 < n) :
    Calls Tryz.prog 45 #[.int .i64 n] w fun e w' => e = .returned (.tuple #[.pointer none, .int .i64 2]) ∧ w = w' := by
  rcases h with h | h
  · go_enter Tryz.func45, Tryz.ntmps45
    go_wp2
    go_ret2
    exact ⟨rfl, rfl⟩
  · have h1 : ¬ (n < 0) := by omega
    go_enter Tryz.func45, Tryz.ntmps45
    go_wp2
    go_ret2
    exact ⟨rfl, rfl⟩
end Go.Proofs.YtgmljgogmbaioaaGreatDoor
