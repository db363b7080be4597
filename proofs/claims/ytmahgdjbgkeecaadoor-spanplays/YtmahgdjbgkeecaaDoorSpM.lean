/- The document's span in memory: Slot, New, Live, Data. -/
import Derived.Test.YtmahgdjbgkeecaaDoorSpK
namespace Go.Proofs.YtmahgdjbgkeecaaDoor
open Go.RowKit
set_option linter.unusedVariables false

theorem rat_is (mb mg n : Nat) (p c s : Int) (f : Nat → Bool) (i : Nat) (y : Int) (w : World) (h : Ref w mb mg p c s n f) (r : Rt p c s) (hn : slN c = n) (hi : i < n) (hy : 256 * p + (i : Int) * szI c s = y) :
    Calls Tryd.prog 37 #[.pointer (some ⟨mb, 0, none⟩), .int .i64 (i : Nat)] w fun e w' => e = .returned (.tuple #[.int .i64 y, .bool true]) ∧ ∃ m, w' = w.drewN m := by
  subst hy; exact rat_in mb mg n p c s f i w h r hn hi

/-- What the document's Slot leaves. -/
def RSl (n : Nat) (p z x : Int) (w : World) (e : Ending) (w' : World) : Prop := ∃ y ok, e = .returned (.tuple #[.int .i64 y, .bool ok]) ∧ SlotR n p z x y ok ∧ ∃ m, w' = w.drewN m
set_option maxHeartbeats 1000000 in
theorem rslot_any (mb mg n : Nat) (p c s : Int) (f : Nat → Bool) (x : Int) (w : World) (h : Ref w mb mg p c s n f) (r : Rt p c s) (hn : slN c = n) :
    Calls Tryd.prog 38 #[.pointer (some ⟨mb, 0, none⟩), .int .i64 x] w (RSl n p (szI c s) x w) := by
  have H : Hid (Ref w mb mg p c s n f) := h
  have b3 := h.c3
  have R : Hid (Rt p c s) := r
  have HN : Hid (slN c = n) := hn
  have n16 : n ≤ 16 := by have := r.facts.2.1; omega
  clear h r hn
  go_enter Tryd.func38, Tryd.ntmps38
  go_wp2
  go_loopw [14] (fun iv wr => ∃ k m : Nat, k ≤ n ∧ iv = .int .i64 (k : Nat) ∧ wr = w.drewN m ∧ ∀ j : Nat, j < k → x ≠ 256 * p + (j : Int) * szI c s) (fun iv _ => n - (intOf iv).toNat)
  case atStart => exact ⟨0, 0, Nat.zero_le _, rfl, rfl, fun j hj => by omega⟩
  case round =>
    obtain ⟨k, m, hk, rfl, rfl, hA⟩ := hrel
    have HA : Hid (∀ j : Nat, j < k → x ≠ 256 * p + (j : Int) * szI c s) := hA
    clear hA
    by_cases hlt : k < n
    · obtain ⟨y, hy⟩ : ∃ y, 256 * p + (k : Int) * szI c s = y := ⟨_, rfl⟩
      have HY : Hid (256 * p + (k : Int) * szI c s = y) := hy
      by_cases he : y = x
      · have S : Hid (SlotR n p (szI c s) x (k : Int) true) := .inl ⟨rfl, k, hlt, rfl, by rw [hy, he]⟩
        subst he
        clear hy
        go_wp2_with (go_at_call 37; refine (rat_is mb mg n p c s f k y _ (H.out.drewN m) R.out HN.out hlt HY.out).mono ?_; rintro e w1 ⟨rfl, m1, rfl⟩)
        go_ret2
        exact ⟨_, _, rfl, S.out, m + m1, rfl⟩
      · have NX : Hid (∀ j : Nat, j < k + 1 → x ≠ 256 * p + (j : Int) * szI c s) := fun j hj => by
          rcases Nat.lt_or_eq_of_le (Nat.le_of_lt_succ hj) with h3 | h3
          · exact HA.out j h3
          · rw [h3, hy]; exact fun e => he e.symm
        have hq : (y == x) = false := beq_eq_false_iff_ne.2 he
        clear hy he
        go_wp2_with (go_at_call 37; refine (rat_is mb mg n p c s f k y _ (H.out.drewN m) R.out HN.out hlt HY.out).mono ?_; rintro e w1 ⟨rfl, m1, rfl⟩)
        go_roundw
        case rel => exact ⟨k + 1, m + m1, by omega, by go_num, rfl, NX.out⟩
        case measure => simp [intOf]; omega
    · obtain rfl : k = n := by omega
      have S : Hid (SlotR k p (szI c s) x 0 false) := .inr ⟨rfl, rfl, HA.out⟩
      go_wp2
      go_ret2
      exact ⟨_, _, rfl, S.out, m, rfl⟩

theorem Tryd.info4 : (Tryd.prog.info? 4).map (fun i => (i.zero, i.size, i.bytes)) = some (some (.bool false), 1, 1) := by kernel_rfl
theorem made_T (n : Nat) : madeCells #[.bool false] n = (cellsT (fun _ => false) n).toArray := by
  apply Array.toList_inj.1
  apply List.ext_getElem
  · simp [madeCells, cellsT]
  · intro i h1 h2
    simp [madeCells, cellsT, Nat.mod_one]
theorem make_T (w : World) (n : Nat) (hn : n ≤ 1000000) : (Instr.makeSlice 41 (.int .i64 (n : Nat)) (.int .i64 (n : Nat))).run Tryd.prog w = .ok (.slice (some ⟨w.heap.size, 0, none⟩) n n) (w.alloc (.cells (cellsT (fun _ => false) n).toArray 4)) := by
  obtain ⟨i0, hi0, hz0, hs0, hb0⟩ := info_parts Tryd.info4
  have h := run_make (P := Tryd.prog) w 41 4 i0 _ Tryd.underlying41 hi0 hz0 .i64 .i64 (n : Int) (n : Int) (by omega) (Int.le_refl _) (by rw [hb0]; omega) (by omega)
  rw [h, hs0]
  simp only [Int.toNat_natCast, Value.cells, Nat.mul_one, made_T]

theorem qslots_rt (p c s : Int) (n : Nat) (w : World) (r : Rt p c s) (hn : slN c = n) :
    Calls Tryd.prog 49 #[.int .i64 c] w fun e w' => e = .returned (.int .i64 (n : Nat)) ∧ w = w' := by
  subst hn
  have := qslots_any c w
  rw [r.facts.2.2.1] at this
  exact this

theorem rnew_ok (p c s : Int) (n : Nat) (w : World) (r : Rt p c s) (hn : slN c = n) :
    Calls Tryd.prog 26 #[.int .i64 p, .int .i64 c, .int .i64 s] w fun e w' => ∃ mb mg, e = .returned (.tuple #[.pointer (some ⟨mb, 0, none⟩), .int .i64 0]) ∧ Ref w' mb mg p c s n (fun _ => false) ∧ Below w.heap.size w w' ∧ w.heap.size ≤ mb ∧ w.heap.size ≤ mg := by
  have R : Hid (Rt p c s) := r
  have HN : Hid (slN c = n) := hn
  have n16 : n ≤ 16 := by have := r.facts.2.1; omega
  have MK : ∀ w : World, (Instr.makeSlice 41 (.int .i64 (n : Nat)) (.int .i64 (n : Nat))).run Tryd.prog w = .ok (.slice (some ⟨w.heap.size, 0, none⟩) n n) (w.alloc (.cells (cellsT (fun _ => false) n).toArray 4)) := fun w => make_T w n (by omega)
  have RN : Hid (Ref ((w.alloc (.cells (cellsT (fun _ => false) n).toArray 4)).alloc (.cells #[.int .i64 p, .int .i64 c, .int .i64 s, .slice (some ⟨w.heap.size, 0, none⟩) n n] 43)) (w.heap.size + 1) w.heap.size p c s n (fun _ => false)) := by
    refine ⟨?_, ?_⟩
    · have := Go.heap_alloc_new (w.alloc (.cells (cellsT (fun _ => false) n).toArray 4)) (.cells #[.int .i64 p, .int .i64 c, .int .i64 s, .slice (some ⟨w.heap.size, 0, none⟩) n n] 43)
      rwa [World.size_alloc] at this
    · rw [Below.heap_alloc _ _ _ (by simp)]; exact Go.heap_alloc_new w _
  have BN : Hid (Below w.heap.size w ((w.alloc (.cells (cellsT (fun _ => false) n).toArray 4)).alloc (.cells #[.int .i64 p, .int .i64 c, .int .i64 s, .slice (some ⟨w.heap.size, 0, none⟩) n n] 43))) := ((Below.refl _ w).alloc (Nat.le_refl _) _).alloc (by simp) _
  have h0 := r.c0
  have h7 := r.c7
  have hp0 := r.p0
  have hp1 := r.p1
  have hpg := pgsN_le c s
  obtain ⟨G, hG⟩ : ∃ G, pgsN c s = G := ⟨_, rfl⟩
  have HG : Hid (pgsN c s = G) := hG
  rw [hG] at hp1 hpg
  have g1 : IntKind.i64.wrap (4096 - (G : Int)) = 4096 - (G : Int) := by rw [IntKind.wrap_i64]; omega
  have h4 : ¬ (4096 - (G : Int) < p) := by omega
  by_cases hc : c = 7
  · subst hc
    have HO : Hid (ofI s = 7) := r.lg rfl
    clear r hn hG
    go_enter Tryd.func26, Tryd.ntmps26
    go_wp2_with (first
      | (go_at_call 48; refine (qof_any s _).mono ?_; rw [HO.out]; rintro e w' ⟨rfl, rfl⟩)
      | (go_at_call 24; refine (rpages_any 7 s _ G HG.out).mono ?_; rintro e w' ⟨rfl, rfl⟩)
      | (go_at_call 49; refine (qslots_rt p 7 s n _ R.out HN.out).mono ?_; rintro e w' ⟨rfl, rfl⟩))
    go_ret2
    exact ⟨_, _, rfl, RN.out, BN.out, by omega, Nat.le_refl _⟩
  · obtain rfl : s = 0 := r.sm (by omega)
    have hq : (c == 7) = false := beq_eq_false_iff_ne.2 hc
    have hc7 : c < 7 := by omega
    clear r hn hG hc
    go_enter Tryd.func26, Tryd.ntmps26
    go_wp2_with (first
      | (go_at_call 24; refine (rpages_any c 0 _ G HG.out).mono ?_; rintro e w' ⟨rfl, rfl⟩)
      | (go_at_call 49; refine (qslots_rt p c 0 n _ R.out HN.out).mono ?_; rintro e w' ⟨rfl, rfl⟩))
    go_ret2
    exact ⟨_, _, rfl, RN.out, BN.out, by omega, Nat.le_refl _⟩

theorem rnew_bad (p c s : Int) (x : Int) (w : World) (hx : newE p c s = x) (h0 : x ≠ 0) :
    Calls Tryd.prog 26 #[.int .i64 p, .int .i64 c, .int .i64 s] w fun e w' => e = .returned (.tuple #[.pointer none, .int .i64 x]) ∧ w = w' := by
  rcases newE_cases p c s with ⟨h1, e⟩ | ⟨k0, k7, h1, e⟩ | ⟨k0, k7, h1, h2, h3, e⟩ | ⟨r, e⟩
  · obtain rfl : x = 11 := by rw [← hx, e]
    clear e hx h0
    rcases h1 with h1 | h1
    · go_enter Tryd.func26, Tryd.ntmps26
      go_wp2
      go_ret2
      exact ⟨rfl, rfl⟩
    · have h2 : ¬ c < 0 := by omega
      go_enter Tryd.func26, Tryd.ntmps26
      go_wp2
      go_ret2
      exact ⟨rfl, rfl⟩
  · obtain rfl : x = 2 := by rw [← hx, e]
    clear e hx h0
    rcases h1 with ⟨h1, h2⟩ | ⟨rfl, h2⟩
    · have hs : (s == 0) = false := beq_eq_false_iff_ne.2 h2
      have hs' : (s != 0) = true := by rw [bne, hs]; rfl
      clear h2
      go_enter Tryd.func26, Tryd.ntmps26
      go_wp2
      go_ret2
      exact ⟨rfl, rfl⟩
    · obtain ⟨k, hk⟩ : ∃ k, ofI s = k := ⟨_, rfl⟩
      have HK : Hid (ofI s = k) := hk
      rw [hk] at h2
      have hs : (k == 7) = false := beq_eq_false_iff_ne.2 h2
      have hs' : (k != 7) = true := by rw [bne, hs]; rfl
      clear h2 hk
      go_enter Tryd.func26, Tryd.ntmps26
      go_wp2_with (go_at_call 48; refine (qof_any s _).mono ?_; rw [HK.out]; rintro e w' ⟨rfl, rfl⟩)
      go_ret2
      exact ⟨rfl, rfl⟩
  · obtain rfl : x = 10 := by rw [← hx, e]
    clear e hx h0
    have hpg := pgsN_le c s
    obtain ⟨G, hG⟩ : ∃ G, pgsN c s = G := ⟨_, rfl⟩
    have HG : Hid (pgsN c s = G) := hG
    rw [hG] at h3 hpg
    have g1 : IntKind.i64.wrap (4096 - (G : Int)) = 4096 - (G : Int) := by rw [IntKind.wrap_i64]; omega
    have h3' : p < 0 ∨ (¬ p < 0 ∧ 4096 - (G : Int) < p) := by omega
    clear h3 hG
    by_cases hc : c = 7
    · subst hc
      have HO : Hid (ofI s = 7) := h2 rfl
      clear h1 h2
      rcases h3' with h4 | ⟨h4, h5⟩
      all_goals
        go_enter Tryd.func26, Tryd.ntmps26
        go_wp2_with (first
          | (go_at_call 48; refine (qof_any s _).mono ?_; rw [HO.out]; rintro e w' ⟨rfl, rfl⟩)
          | (go_at_call 24; refine (rpages_any 7 s _ G HG.out).mono ?_; rintro e w' ⟨rfl, rfl⟩))
        go_ret2
        exact ⟨rfl, rfl⟩
    · obtain rfl : s = 0 := h1 (by omega)
      have hq : (c == 7) = false := beq_eq_false_iff_ne.2 hc
      have hc7 : c < 7 := by omega
      clear h1 h2 hc
      rcases h3' with h4 | ⟨h4, h5⟩
      all_goals
        go_enter Tryd.func26, Tryd.ntmps26
        go_wp2_with (go_at_call 24; refine (rpages_any c 0 _ G HG.out).mono ?_; rintro e w' ⟨rfl, rfl⟩)
        go_ret2
        exact ⟨rfl, rfl⟩
  · exact absurd (hx.symm.trans e) h0

set_option maxHeartbeats 1000000 in
theorem rlive_any (mb mg n : Nat) (p c s : Int) (f : Nat → Bool) (w : World) (h : Ref w mb mg p c s n f) (few : n ≤ 65536) :
    Calls Tryd.prog 14 #[.pointer (some ⟨mb, 0, none⟩)] w fun e w' => ∃ a cap, e = .returned (.slice a (lsL f n).length cap) ∧ OwnsI w' w.heap.size a (lsL f n) cap ∧ Below w.heap.size w w' := by
  have hs := h.c3
  have HR : Hid (Ref w mb mg p c s n f) := h
  clear h
  go_enter Tryd.func14, Tryd.ntmps14
  go_wp2
  go_loopw [3, 10] (fun lv iv wr => ∃ (k : Nat) (a : Option Addr) (cap : Nat), k ≤ n ∧ iv = .int .i64 k ∧ lv = .slice a (lsL f k).length cap ∧ OwnsI wr w.heap.size a (lsL f k) cap ∧ Below w.heap.size w wr) (fun _ iv _ => n - (intOf iv).toNat)
  case atStart => exact ⟨0, none, 0, Nat.zero_le _, rfl, rfl, World.ownsRow_nil _ _ _ _, Below.refl _ _⟩
  case round =>
    obtain ⟨k, a, cap, hk, rfl, rfl, ho, hb⟩ := hrel
    have HO : Hid (OwnsI _ w.heap.size a (lsL f k) cap) := ho
    have HB : Hid (Below w.heap.size w _) := hb
    have hll : (lsL f k).length ≤ k := by rw [lsL_len]; exact cnt_le f k
    by_cases hlt : k < n
    · have hR2 := HR.out.keep hb
      have hs2 := hR2.c3
      have hcell := hR2.cell k hlt
      clear ho hb hR2
      cases hf : f k
      · have EL : Hid (lsL f (k + 1) = lsL f k) := by show _ = _; rw [lsL, hf]; simp
        rw [hf] at hcell
        clear hf
        go_wp2
        go_roundw
        case rel => exact ⟨k + 1, a, cap, by omega, by go_num, by rw [EL.out], by rw [EL.out]; exact HO.out, HB.out⟩
        case measure => simp [intOf]; omega
      · have EL : Hid (lsL f (k + 1) = lsL f k ++ [(k : Int)]) := by show _ = _; rw [lsL, hf]; simp
        rw [hf] at hcell
        clear hf
        go_wp2_with (at_builtin; refine wpList_one rfl _ _ 22 3 .i64 0 8 rfl Tryd.underlying22 Tryd.info3 w.heap.size ?q1 a (lsL f k) cap rfl ?q2 _ 1 (k : Int) rfl ?q3 ?q4 ?q5 ?_)
        case q1 => have := HB.out.size; simp; omega
        case q2 => exact World.ownsRow.alloc HO.out _
        case q3 => simp
        case q4 => omega
        case q5 => omega
        intro a3 c3 w3 o3 b3
        have O3 : Hid (OwnsI w3 w.heap.size a3 (lsL f (k + 1)) c3) := by show OwnsI _ _ _ _ _; rw [EL.out]; exact ownsI_of o3
        have B3 : Hid (Below w.heap.size w w3) := (HB.out.alloc HB.out.size _).trans b3
        have hlen : (lsL f k).length + 1 = (lsL f (k + 1)).length := by rw [EL.out]; simp
        rw [hlen]
        clear o3 b3 hlen
        go_wp2
        go_roundw
        case rel => exact ⟨k + 1, a3, c3, by omega, by go_num, rfl, O3.out, B3.out⟩
        case measure => simp [intOf]; omega
    · obtain rfl : k = n := by omega
      clear ho hb
      go_wp2
      go_ret
      exact ⟨a, cap, rfl, HO.out, HB.out⟩
theorem rlive_own (mb mg n : Nat) (p c s : Int) (f : Nat → Bool) (w : World) (h : Ref w mb mg p c s n f) (few : n ≤ 65536) (l : List Int) (hl : lsL f n = l) :
    Calls Tryd.prog 14 #[.pointer (some ⟨mb, 0, none⟩)] w fun e w' => ∃ a cap, e = .returned (.slice a l.length cap) ∧ OwnsI w' w.heap.size a l cap ∧ Below w.heap.size w w' := by
  subst hl; exact rlive_any mb mg n p c s f w h few

set_option maxRecDepth 20000 in
set_option maxHeartbeats 2000000 in
theorem rdata_any (mb mg n : Nat) (p c s : Int) (f : Nat → Bool) (w : World) (h : Ref w mb mg p c s n f) (few : n ≤ 65536) (l : List Int) (hl : lsL f n = l) :
    Calls Tryd.prog 17 #[.pointer (some ⟨mb, 0, none⟩)] w fun e w' => ∃ a cap, e = .returned (.agg #[.int .i64 p, .int .i64 c, .int .i64 s, .slice a l.length cap]) ∧ OwnsI w' w.heap.size a l cap ∧ Below w.heap.size w w' := by
  obtain ⟨D, hD, zD, rD, bD⟩ := dbox w 0 0 0 none 0 0
  have HD : Hid (w.alloc (.cells #[.int .i64 0, .int .i64 0, .int .i64 0, .slice none 0 0] 24) = D) := hD
  have BD : Hid (Below w.heap.size w D) := bD
  have ZD : Hid (D.heap.size = w.heap.size + 1) := zD
  have SD : Hid (Ref D mb mg p c s n f) := h.keep bD
  have RD : Hid (D.heap[w.heap.size]? = some (.cells (dcells 0 0 0 none 0 0) 24 (0, 0))) := rD
  have NE : Hid (mb ≠ w.heap.size) := Nat.ne_of_lt h.lt.1
  have HL : Hid (lsL f n = l) := hl
  have q0 := SD.out.c0
  have q1 := SD.out.c1
  have q2 := SD.out.c2
  clear h hD bD zD rD hl
  go_enter Tryd.func17, Tryd.ntmps17
  go_wp2_with fail
  rw [HD.out]
  go_region_held3 (fun w' => w'.cell? ⟨mb, 0, none⟩ = some (.int .i64 p) ∧ w'.cell? ⟨mb, 1, none⟩ = some (.int .i64 c) ∧ w'.cell? ⟨mb, 2, none⟩ = some (.int .i64 s)) (first | exact ⟨u0, u1, u2⟩ | exact ⟨r0, r1, r2⟩ | exact ⟨q0, q1, q2⟩)
    ((go_at_call 14; refine (rlive_own mb mg n p c s f _ SD.out.drew few l HL.out).mono ?_; rintro e w2 ⟨a2, c2, rfl, o2, b2⟩; have B2 : Hid (Below D.heap.size D w2) := Below.ofDrew b2; have O2 : Hid (OwnsI w2 D.heap.size a2 l c2) := OwnsI.ofDrew o2; have R2 : Hid (w2.heap[w.heap.size]? = some (.cells (dcells 0 0 0 none 0 0) 24 (0, 0))) := bblock B2.out RD.out; have r0 := bcell B2.out q0; have r1 := bcell B2.out q1; have r2 := bcell B2.out q2; have y0 := dcell0 R2.out; have y1 := dcell1 R2.out; have y2 := dcell2 R2.out; have y3 := dcell3 R2.out; have z0 := dthawed R2.out 0; have z1 := dthawed R2.out 1; have z2 := dthawed R2.out 2; have z3 := dthawed R2.out 3; have u0 := lay4_else (p := p) (c := c) (s := s) (v := .slice a2 l.length c2) NE.out r0; have u1 := lay4_else (p := p) (c := c) (s := s) (v := .slice a2 l.length c2) NE.out r1; have u2 := lay4_else (p := p) (c := c) (s := s) (v := .slice a2 l.length c2) NE.out r2; unfold lay4 at u0 u1 u2; clear o2 b2))
  obtain ⟨e0, e1, e2, e3⟩ := lay4_cells (p := p) (c := c) (s := s) (v := .slice a2 l.length c2) R2.out
  have O3 : Hid (OwnsI (lay4 w2 w.heap.size p c s (.slice a2 l.length c2)) w.heap.size a2 l c2) := (lay4_ownsI O2.out (by have := ZD.out; omega)).mono (by have := ZD.out; omega)
  have B3 : Hid (Below w.heap.size w (lay4 w2 w.heap.size p c s (.slice a2 l.length c2))) := lay4_below (BD.out.trans (B2.out.mono (by have := ZD.out; omega))) (Nat.le_refl _)
  unfold lay4 at e0 e1 e2 e3
  go_wp2
  refine bodyPost_ret (v := .agg #[.int .i64 p, .int .i64 c, .int .i64 s, .slice a2 l.length c2]) (by simp [results, Tryd.results17, go_sem, e0, e1, e2, e3]) rfl ⟨a2, c2, rfl, O3.out, B3.out⟩
end Go.Proofs.YtmahgdjbgkeecaaDoor
