/- Layer 19: writes in memory; Lay of the code. -/
import Derived.Test.YtgmmgklcndnehaaDoorChE
import Derived.Laws.MakeOwn
namespace Go.Proofs.YtgmmgklcndnehaaDoor
open Go.RowKit Go.Maps
set_option linter.unusedVariables false
set_option maxRecDepth 4000

theorem infoW : (Tryd.prog.info? 37).map (fun i => (i.zero, i.size, i.bytes)) = some (some (.agg #[.int .i64 0, .slice none 0 0]), 2, 32) := by kernel_rfl
theorem make_W (w : World) (n : Nat) (hn : n ≤ 100000) : (Instr.makeSlice 26 (.int .i64 (n : Nat)) (.int .i64 (n : Nat))).run Tryd.prog w = .ok (.slice (some ⟨w.heap.size, 0, none⟩) n n) (w.alloc (.cells (madeCells #[.int .i64 0, .slice none 0 0] (n * 2)) 37)) := by
  obtain ⟨i0, hi0, hz0, hs0, hb0⟩ := info_parts infoW
  have h := run_make (P := Tryd.prog) w 26 37 i0 _ Tryd.underlying26 hi0 hz0 .i64 .i64 (n : Int) (n : Int) (by omega) (Int.le_refl _) (by rw [hb0]; omega) (by omega)
  rw [h, hs0]
  simp only [Int.toNat_natCast, Value.cells]

/-- Writes that are laid from the k-th on: in the row g, their bytes in blocks of their own from N on. -/
structure WrB (w : World) (N g n k : Nat) (ws : List (Int × List Int)) : Prop where
  row : ∃ cs : Array Value, w.heap[g]? = some (.cells cs 37 (0, 0)) ∧ cs.size = n * 2
  ge : N ≤ g
  len : ws.length = n
  «at» : ∀ i (h : i < ws.length), k ≤ i → w.cell? ⟨g, i * 2, none⟩ = some (.int .i64 ws[i].1) ∧ ∃ q, N ≤ q ∧ w.cell? ⟨g, i * 2 + 1, none⟩ = some (.slice (some ⟨q, 0, none⟩) 64 64) ∧ RowB w q 5 ws[i].2
theorem WrB.lt {w : World} {N g n k : Nat} {ws : List (Int × List Int)} (h : WrB w N g n k ws) : g < w.heap.size := by obtain ⟨cs, h1, _⟩ := h.row; exact (Array.getElem?_eq_some_iff.1 h1).1
theorem WrB.keep {w w' : World} {N g n k : Nat} {ws : List (Int × List Int)} (h : WrB w N g n k ws) (b : Below w.heap.size w w') : WrB w' N g n k ws := by
  refine ⟨?_, h.ge, h.len, fun i hi hk => ?_⟩
  · obtain ⟨cs, h1, h2⟩ := h.row
    exact ⟨cs, by rw [b.block g h.lt]; exact h1, h2⟩
  · obtain ⟨h1, q, h2, h3, h4⟩ := h.at i hi hk
    exact ⟨by rw [b.cell (p := ⟨g, i * 2, none⟩) h.lt]; exact h1, q, h2, by rw [b.cell (p := ⟨g, i * 2 + 1, none⟩) h.lt]; exact h3, h4.keep b⟩
theorem setc_else {w : World} {g j h k : Nat} {v u : Value} (hne : h ≠ g) (hc : w.cell? ⟨h, k, none⟩ = some u) : (w.setCell ⟨g, j, none⟩ v).cell? ⟨h, k, none⟩ = some u := by
  rw [(Only.set g j v w).cell hne]; exact hc
theorem WrB.thawed {w : World} {N g n k : Nat} {ws : List (Int × List Int)} (h : WrB w N g n k ws) (j : Nat) : w.frozen? ⟨g, j, none⟩ = false := by
  obtain ⟨cs, h1, _⟩ := h.row
  exact frozen_of_row w g j _ _ h1
theorem WrB.cellE {w : World} {N g n k : Nat} {ws : List (Int × List Int)} (h : WrB w N g n k ws) {j : Nat} (hj : j < n * 2) : ∃ u, w.cell? ⟨g, j, none⟩ = some u := by
  obtain ⟨cs, h1, h2⟩ := h.row
  rw [cell_of_row w g j _ _ _ h1]
  exact ⟨cs[j], by rw [Array.getElem?_eq_getElem (by omega)]⟩
/-- One more, ahead of those that are laid. -/
theorem WrB.next {w : World} {N g n k q : Nat} {ws : List (Int × List Int)} (h : WrB w N g n (k + 1) ws) (hk : k < ws.length) (hq : N ≤ q) (hr : RowB w q 5 ws[k].2) :
    WrB ((w.setCell ⟨g, k * 2, none⟩ (.int .i64 ws[k].1)).setCell ⟨g, k * 2 + 1, none⟩ (.slice (some ⟨q, 0, none⟩) 64 64)) N g n k ws := by
  obtain ⟨cs, h1, h2⟩ := h.row
  have hl := h.len
  have r1 : (w.setCell ⟨g, k * 2, none⟩ (.int .i64 ws[k].1)).heap[g]? = _ := heap_setCell_same w g (k * 2) cs 37 _ h1
  have r2 : ((w.setCell ⟨g, k * 2, none⟩ (.int .i64 ws[k].1)).setCell ⟨g, k * 2 + 1, none⟩ (.slice (some ⟨q, 0, none⟩) 64 64)).heap[g]? = _ := heap_setCell_same _ g (k * 2 + 1) _ 37 _ r1
  have on : Only g w ((w.setCell ⟨g, k * 2, none⟩ (.int .i64 ws[k].1)).setCell ⟨g, k * 2 + 1, none⟩ (.slice (some ⟨q, 0, none⟩) 64 64)) := (Only.set _ _ _ _).trans (Only.set _ _ _ _)
  have kb : ∀ (p : Nat) (l : List Int), RowB w p 5 l → RowB ((w.setCell ⟨g, k * 2, none⟩ (.int .i64 ws[k].1)).setCell ⟨g, k * 2 + 1, none⟩ (.slice (some ⟨q, 0, none⟩) 64 64)) p 5 l := fun p l hp => on.row hp (fun e => by
    subst e
    have hp' : w.heap[p]? = some (.cells (cellsB l).toArray 5 (0, 0)) := hp
    rw [h1] at hp'
    cases hp')
  refine ⟨⟨_, r2, by simp [h2]⟩, h.ge, hl, fun i hi hki => ?_⟩
  by_cases e : i = k
  · subst e
    refine ⟨?_, q, hq, ?_, kb _ _ hr⟩
    · rw [cell_of_row _ g (i * 2) _ _ _ r2, Array.getElem?_setIfInBounds_ne (by omega), Array.getElem?_setIfInBounds_self_of_lt (by omega)]
    · rw [cell_of_row _ g (i * 2 + 1) _ _ _ r2, Array.getElem?_setIfInBounds_self_of_lt (by simp; omega)]
  · obtain ⟨a1, p, a2, a3, a4⟩ := h.at i hi (by omega)
    rw [cell_of_row w g _ _ _ _ h1] at a1 a3
    refine ⟨?_, p, a2, ?_, kb _ _ a4⟩
    · rw [cell_of_row _ g (i * 2) _ _ _ r2, Array.getElem?_setIfInBounds_ne (by omega), Array.getElem?_setIfInBounds_ne (by omega)]; exact a1
    · rw [cell_of_row _ g (i * 2 + 1) _ _ _ r2, Array.getElem?_setIfInBounds_ne (by omega), Array.getElem?_setIfInBounds_ne (by omega)]; exact a3

/-- What Lay answers. -/
def LyP (w : World) (b l : List Int) (e : Ending) (w' : World) : Prop :=
  Below w.heap.size w w' ∧ ((layEC b.length l ≠ 0 ∧ e = .returned (.tuple #[.slice none 0 0, refE (layEC b.length l)])) ∨
    (layEC b.length l = 0 ∧ ∃ g, e = .returned (.tuple #[.slice (some ⟨g, 0, none⟩) l.length l.length, .nilIface]) ∧ WrB w' w.heap.size g l.length 0 (wrC b l)))
theorem LyP.bad {w w' : World} {b l : List Int} {c : Int} (hc : layEC b.length l = c) (h0 : c ≠ 0) (bb : Below w.heap.size w w') : LyP w b l (.returned (.tuple #[.slice none 0 0, .iface 72 (.agg #[.iface 44 (.int .i64 c)])])) w' := by
  subst hc
  exact ⟨bb, .inl ⟨h0, rfl⟩⟩
set_option maxRecDepth 20000 in
set_option maxHeartbeats 4000000 in
theorem hlay_long (a al : Option Addr) (cap cl : Nat) (b l : List Int) (w : World) (hb : 65542 < b.length) (hbm : b.length ≤ maxLen) :
    Calls Tryd.prog 10 #[.slice a b.length cap, .slice al l.length cl] w (LyP w b l) := by
  have R : Hid (layEC b.length l = 6) := if_pos hb
  have h1 : (65542 : Int) < (b.length : Int) := by omega
  clear hb
  go_enter Tryd.func10, Tryd.ntmps10
  go_wp2
  go_ret2
  exact LyP.bad R.out (by decide) (Below.refl _ _)
set_option maxRecDepth 20000 in
set_option maxHeartbeats 4000000 in
theorem hlay_count (a al : Option Addr) (cap cl : Nat) (b l : List Int) (w : World) (hb : b.length ≤ 65542) (hl : l.length ≤ maxLen) (hc : l.length ≠ cntC b.length) :
    Calls Tryd.prog 10 #[.slice a b.length cap, .slice al l.length cl] w (LyP w b l) := by
  have R : Hid (layEC b.length l = 2) := by show _ = _; unfold layEC; rw [if_neg (by omega), if_neg (fun q => hc q.1)]
  have h1 : ¬ (65542 : Int) < (b.length : Int) := by omega
  obtain ⟨C, hC⟩ : ∃ C, cntC b.length = C := ⟨_, rfl⟩
  have CN : Hid (Calls Tryd.prog 14 #[.int .i64 (b.length : Nat)] w fun e w' => e = .returned (.int .i64 (C : Nat)) ∧ w = w') := by rw [← hC]; exact hcount_any _ w (by omega)
  rw [hC] at hc
  have hne : ((l.length : Int) != (C : Int)) = true := by rw [bne_iff_ne]; omega
  clear hb hC hl hc
  go_enter Tryd.func10, Tryd.ntmps10
  go_wp2_with (go_at_call 14; refine Calls.mono CN.out ?_; rintro e w' ⟨rfl, rfl⟩)
  go_ret2
  exact LyP.bad R.out (by decide) (Below.refl _ _)
set_option maxRecDepth 20000 in
set_option maxHeartbeats 4000000 in
theorem hlay_apart (a al : Option Addr) (cap cl : Nat) (b l : List Int) (w : World) (hb : b.length ≤ 65542) (hc : l.length = cntC b.length) (hI : IsI w al l) (hap : apC l = false) :
    Calls Tryd.prog 10 #[.slice a b.length cap, .slice al l.length cl] w (LyP w b l) := by
  have R : Hid (layEC b.length l = 2) := by show _ = _; unfold layEC; rw [if_neg (by omega), if_neg (fun q => by rw [hap] at q; cases q.2)]
  have h1 : ¬ (65542 : Int) < (b.length : Int) := by omega
  have lm : l.length ≤ 100000 := by rw [hc]; unfold cntC; omega
  have CN : Hid (Calls Tryd.prog 14 #[.int .i64 (b.length : Nat)] w fun e w' => e = .returned (.int .i64 (l.length : Nat)) ∧ w = w') := by rw [hc]; exact hcount_any _ w (by omega)
  have AP : Hid (Calls Tryd.prog 31 #[.slice al l.length cl] w fun e w' => e = .returned (.bool false) ∧ Below w.heap.size w w') := by
    have q := hapart_any al cl _ l w rfl hI lm
    rw [hap] at q; exact q
  have hne : ((l.length : Int) != (l.length : Int)) = false := by simp
  clear hb hap hI hc
  go_enter Tryd.func10, Tryd.ntmps10
  go_wp2_with (first
    | (go_at_call 14; refine Calls.mono CN.out ?_; rintro e w' ⟨rfl, rfl⟩)
    | (go_at_call 31; refine Calls.mono AP.out ?_; rintro e w1 ⟨rfl, b1⟩))
  go_ret2
  exact LyP.bad R.out (by decide) b1

set_option maxRecDepth 20000 in
set_option maxHeartbeats 8000000 in
theorem hlay_go (a al : Option Addr) (cap cl : Nat) (b l : List Int) (w : World) (hB : IsB w a b) (hbc : b.length ≤ cap) (hcm : cap ≤ maxLen) (hb : b.length ≤ 65542) (hc : l.length = cntC b.length) (hI : IsI w al l) (hap : apC l = true) :
    Calls Tryd.prog 10 #[.slice a b.length cap, .slice al l.length cl] w (LyP w b l) := by
  have R : Hid (layEC b.length l = 0) := by show _ = _; unfold layEC; rw [if_neg (by omega), if_pos ⟨hc, hap⟩]
  have h1 : ¬ (65542 : Int) < (b.length : Int) := by omega
  have lm : l.length ≤ 2000 := by rw [hc]; unfold cntC; omega
  have LT : Hid (∀ i, i < l.length → 56 * i < b.length) := fun i hi => cntC_lt.1 (by rw [← hc]; exact hi)
  have LS : Hid (∀ i, i + 1 < l.length → 56 * i + 56 ≤ b.length) := fun i hi => by have := cntC_lt.1 (by rw [← hc]; exact hi); omega
  have RG : Hid (∀ s ∈ l, 1 ≤ s ∧ s ≤ 65534) := (apC_iff.1 hap).1
  have CN : Hid (Calls Tryd.prog 14 #[.int .i64 (b.length : Nat)] w fun e w' => e = .returned (.int .i64 (l.length : Nat)) ∧ w = w') := by rw [hc]; exact hcount_any _ w (by omega)
  have AP : Hid (Calls Tryd.prog 31 #[.slice al l.length cl] w fun e w' => e = .returned (.bool true) ∧ Below w.heap.size w w') := by
    have q := hapart_any al cl _ l w rfl hI (by omega)
    rw [hap] at q; exact q
  have hne : ((l.length : Int) != (l.length : Int)) = false := by simp
  have wn1 : IntKind.i64.wrap ((l.length : Int) - 1) = (l.length : Int) - 1 := by rw [IntKind.wrap_i64]; omega
  obtain ⟨N, hN⟩ : ∃ N, w.heap.size = N := ⟨_, rfl⟩
  have HN : Hid (w.heap.size = N) := hN
  have BI : Hid (∀ w', Below N w w' → IsI w' al l) := fun w' bb => hI.keep (by rw [hN]; exact bb)
  have BB : Hid (∀ w', Below N w w' → IsB w' a b) := fun w' bb => hB.keep (by rw [hN]; exact bb)
  have MK : ∀ w : World, (Instr.makeSlice 26 (.int .i64 (l.length : Nat)) (.int .i64 (l.length : Nat))).run Tryd.prog w = .ok (.slice (some ⟨w.heap.size, 0, none⟩) l.length l.length) (w.alloc (.cells (madeCells #[.int .i64 0, .slice none 0 0] (l.length * 2)) 37)) := fun w => make_W w _ (by omega)
  unfold maxLen at hcm
  clear hb hap hI hc hB hN
  go_enter Tryd.func10, Tryd.ntmps10
  go_wp2_with (first
    | (go_at_call 14; refine Calls.mono CN.out ?_; rintro e w' ⟨rfl, rfl⟩)
    | (go_at_call 31; refine Calls.mono AP.out ?_; rw [HN.out]; rintro e w1 ⟨rfl, b1⟩; have B1 : Hid (Below N w w1) := b1; clear b1; obtain ⟨g, hg⟩ : ∃ g, w1.heap.size = g := ⟨_, rfl⟩; have HG : Hid (w1.heap.size = g) := hg; replace MK := MK w1; rw [hg] at MK; obtain ⟨w2, hw2⟩ : ∃ w2, w1.alloc (.cells (madeCells #[.int .i64 0, .slice none 0 0] (l.length * 2)) 37) = w2 := ⟨_, rfl⟩; have H2 : Hid (w1.alloc (.cells (madeCells #[.int .i64 0, .slice none 0 0] (l.length * 2)) 37) = w2) := hw2; rw [hw2] at MK; clear hg hw2))
  have GE : Hid (N ≤ g) := by show _ ≤ _; rw [← HG.out, ← HN.out]; exact B1.out.size
  have B2 : Hid (Below N w w2) := by show Below _ _ _; rw [← H2.out]; exact B1.out.alloc (by rw [HG.out]; exact GE.out) _
  have W2 : Hid (WrB w2 N g l.length l.length (wrC b l)) := by
    refine ⟨⟨madeCells #[.int .i64 0, .slice none 0 0] (l.length * 2), ?_, size_madeCells _ _⟩, GE.out, wrC_len b l, fun i hi hk => ?_⟩
    · rw [← H2.out, ← HG.out]; exact Go.heap_alloc_new w1 _
    · rw [wrC_len] at hi; omega
  have e0 : l.getD l.length 0 = 0 := by rw [List.getD_eq_getElem?_getD, List.getElem?_eq_none (Nat.le_refl _)]; rfl
  have E0 : Hid (l.getD l.length 0 = 0) := e0
  clear e0
  go_loopw [7, 8] (fun nv iv wr => ∃ k : Nat, k ≤ l.length ∧ nv = .int .i64 (l.getD k 0) ∧ iv = .int .i64 ((k : Int) - 1) ∧ WrB wr N g l.length k (wrC b l) ∧ Below N w wr) (fun _ iv _ => (intOf iv + 1).toNat)
  case atStart => exact ⟨l.length, Nat.le_refl _, by rw [E0.out], rfl, W2.out, B2.out⟩
  case round =>
    obtain ⟨k, hk, rfl, rfl, hW, hb⟩ := hrel
    have HW : Hid (WrB wr N g l.length k (wrC b l)) := hW
    have HB : Hid (Below N w wr) := hb
    clear hW hb
    rcases k with _ | k
    · go_wp2
      go_ret2
      exact ⟨by rw [HN.out]; exact HB.out, .inr ⟨R.out, g, rfl, by rw [HN.out]; exact HW.out⟩⟩
    · have ek : ((k + 1 : Nat) : Int) - 1 = (k : Int) := by omega
      rw [ek]
      have hkl : k < l.length := hk
      have kb := LT.out k hkl
      obtain ⟨sb, so, rfl, hsb, hcell, _, _⟩ := (BI.out w (Below.refl _ _)).at' hkl
      have hsbN : sb < N := by rw [← HN.out]; exact hsb
      have hcell2 : wr.cell? ⟨sb, so + k, none⟩ = some (.int .i64 l[k]) := (HB.out.cell (p := ⟨sb, so + k, none⟩) hsbN).trans hcell
      obtain ⟨s, hs⟩ : ∃ s, l[k] = s := ⟨_, rfl⟩
      have sr := RG.out l[k] (List.getElem_mem hkl)
      have eg : l.getD k 0 = s := by rw [List.getD_eq_getElem?_getD, List.getElem?_eq_getElem hkl]; exact hs
      rw [hs] at hcell2 sr
      obtain ⟨nx, hnx⟩ : ∃ nx, l.getD (k + 1) 0 = nx := ⟨_, rfl⟩
      have nr : 0 ≤ nx ∧ nx < 4294967296 := by
        rw [← hnx, List.getD_eq_getElem?_getD]
        by_cases h : k + 1 < l.length
        · rw [List.getElem?_eq_getElem h]
          have := RG.out l[k + 1] (List.getElem_mem h)
          show 0 ≤ l[k + 1] ∧ _
          simp only [Option.getD_some]
          omega
        · rw [List.getElem?_eq_none (by omega)]; decide
      rw [hnx]
      have WE : Hid (∀ h : k < (wrC b l).length, (wrC b l)[k] = (s, secC (pcC b k) nx)) := fun h => by rw [wrC_at, eg, nxC, hnx]
      have HGD : Hid (l.getD k 0 = s) := eg
      have PL := pcC_len b k
      obtain ⟨F, hF⟩ : ∃ F : Nat, k * 56 = F := ⟨_, rfl⟩
      have fk : (k : Int) * 56 = (F : Int) := by omega
      have wf : IntKind.i64.wrap ((k : Int) * 56) = (F : Int) := by rw [IntKind.wrap_i64]; omega
      have we : IntKind.i64.wrap ((F : Int) + 56) = (F : Int) + 56 := by rw [IntKind.wrap_i64]; omega
      have wk : IntKind.i64.wrap ((k : Int) - 1) = (k : Int) - 1 := by rw [IntKind.wrap_i64]; omega
      have fb : F < b.length := by omega
      obtain ⟨K, hK⟩ : ∃ K, wr.heap.size = K := ⟨_, rfl⟩
      have HK : Hid (wr.heap.size = K) := hK
      have KN : Hid (N ≤ K) := by show _ ≤ _; rw [← hK, ← HN.out]; exact HB.out.size
      obtain ⟨hbb, hnil | ⟨bb, boff, rfl, hbs, hbc'⟩⟩ := BB.out wr HB.out
      · rw [hnil] at fb; simp at fb
      have IP : Hid (IsB wr (some ⟨bb, boff + F, none⟩) (pcC b k)) := by
        have q := (BB.out wr HB.out).part (56 * k) 56 rfl
        rw [show 56 * k = F by omega] at q
        have e : pcC b k = (b.drop F).take 56 := by unfold pcC; rw [show 56 * k = F by omega]
        show IsB _ _ _
        rw [e]; exact q
      have PL2 : Hid ((pcC b k).length ≤ 56) := pcC_le b k
      obtain ⟨X, hX⟩ : ∃ X, secC (pcC b k) nx = X := ⟨_, rfl⟩
      have SO : Hid (∀ (n cp : Nat), n = (pcC b k).length → Calls Tryd.prog 32 #[.slice (some ⟨bb, boff + F, none⟩) n cp, .int .i64 nx] wr.drew fun e w' => e = .returned (.slice (some ⟨K, 0, none⟩) 64 64) ∧ RowB w' K 5 X ∧ Below wr.heap.size wr w') := fun n cp hn => by
        refine (hsectorof_any _ cp n (pcC b k) nx wr.drew hn (isB_drew IP.out) PL2.out nr.1 nr.2).mono ?_
        rintro e w' ⟨rfl, r, bw⟩
        rw [hX] at r
        have hk' : wr.drew.heap.size = K := hK
        rw [hk'] at r ⊢
        exact ⟨rfl, r, ofDrewB bw⟩
      rw [hX] at WE
      have hne2 : sb ≠ g := by have := GE.out; omega
      have kk : k * 2 < l.length * 2 := by omega
      have kk1 : k * 2 + 1 < l.length * 2 := by omega
      have hwl : k < (wrC b l).length := by rw [wrC_len]; exact hkl
      clear hcell hs eg hnx hsb hX hbb hbs hbc' hK nr sr
      by_cases hfit : F + 56 ≤ b.length
      · have hfit2 : (F : Int) + 56 ≤ (b.length : Int) := by omega
        have PN : Hid ((pcC b k).length = 56) := by show _ = _; rw [PL]; omega
        clear PL
        go_wp2
        go_region_held3 (fun w' => w'.cell? ⟨sb, so + k, none⟩ = some (.int .i64 s)) (first | with_reducible exact setc_else hne2 (setc_else hne2 d3) | with_reducible exact setc_else hne2 d3 | assumption | go_keep)
          ((go_at_call 32; refine Calls.mono (SO.out _ _ (by rw [PN.out]; try omega)) ?_; rintro e w3 ⟨rfl, r3, b3⟩; have W3 : Hid (WrB w3 N g l.length (k + 1) (wrC b l)) := HW.out.keep b3; have d3 : w3.cell? ⟨sb, so + k, none⟩ = some (.int .i64 s) := (b3.cell (p := ⟨sb, so + k, none⟩) (by have := KN.out; have := HK.out; show sb < _; omega)).trans hcell2; have d5 := setc_else (j := k * 2 + 1) (v := .slice (some ⟨K, 0, none⟩) 64 64) hne2 (setc_else (j := k * 2) (v := .int .i64 s) hne2 d3); obtain ⟨u0, hu0⟩ := W3.out.cellE kk; obtain ⟨u1, hu1⟩ := W3.out.cellE kk1; have f0 := W3.out.thawed (k * 2); have f1 := W3.out.thawed (k * 2 + 1); have N3 := W3.out.next hwl KN.out (by rw [WE.out hwl]; exact r3); rw [WE.out hwl] at N3; have NX : Hid (WrB ((w3.setCell ⟨g, k * 2, none⟩ (.int .i64 s)).setCell ⟨g, k * 2 + 1, none⟩ (.slice (some ⟨K, 0, none⟩) 64 64)) N g l.length k (wrC b l)) := N3; have BX : Hid (Below N w ((w3.setCell ⟨g, k * 2, none⟩ (.int .i64 s)).setCell ⟨g, k * 2 + 1, none⟩ (.slice (some ⟨K, 0, none⟩) 64 64))) := (HB.out.trans (b3.mono (by rw [HK.out]; exact KN.out))).trans (((Only.set _ _ _ _).trans (Only.set _ _ _ _)).below GE.out); clear r3 b3 N3))
        go_wp2
        go_roundw
        case rel => exact ⟨k, by omega, by rw [HGD.out], rfl, NX.out, BX.out⟩
        case measure => simp [intOf]
      · have hfit2 : ¬ (F : Int) + 56 ≤ (b.length : Int) := by omega
        have hfit3 : (b.length : Int) < (F : Int) + 56 := by omega
        have PN : Hid ((pcC b k).length = b.length - F) := by show _ = _; rw [PL]; omega
        clear PL
        go_wp2
        go_region_held3 (fun w' => w'.cell? ⟨sb, so + k, none⟩ = some (.int .i64 s)) (first | with_reducible exact setc_else hne2 (setc_else hne2 d3) | with_reducible exact setc_else hne2 d3 | assumption | go_keep)
          ((go_at_call 32; refine Calls.mono (SO.out _ _ (by rw [PN.out]; try omega)) ?_; rintro e w3 ⟨rfl, r3, b3⟩; have W3 : Hid (WrB w3 N g l.length (k + 1) (wrC b l)) := HW.out.keep b3; have d3 : w3.cell? ⟨sb, so + k, none⟩ = some (.int .i64 s) := (b3.cell (p := ⟨sb, so + k, none⟩) (by have := KN.out; have := HK.out; show sb < _; omega)).trans hcell2; have d5 := setc_else (j := k * 2 + 1) (v := .slice (some ⟨K, 0, none⟩) 64 64) hne2 (setc_else (j := k * 2) (v := .int .i64 s) hne2 d3); obtain ⟨u0, hu0⟩ := W3.out.cellE kk; obtain ⟨u1, hu1⟩ := W3.out.cellE kk1; have f0 := W3.out.thawed (k * 2); have f1 := W3.out.thawed (k * 2 + 1); have N3 := W3.out.next hwl KN.out (by rw [WE.out hwl]; exact r3); rw [WE.out hwl] at N3; have NX : Hid (WrB ((w3.setCell ⟨g, k * 2, none⟩ (.int .i64 s)).setCell ⟨g, k * 2 + 1, none⟩ (.slice (some ⟨K, 0, none⟩) 64 64)) N g l.length k (wrC b l)) := N3; have BX : Hid (Below N w ((w3.setCell ⟨g, k * 2, none⟩ (.int .i64 s)).setCell ⟨g, k * 2 + 1, none⟩ (.slice (some ⟨K, 0, none⟩) 64 64))) := (HB.out.trans (b3.mono (by rw [HK.out]; exact KN.out))).trans (((Only.set _ _ _ _).trans (Only.set _ _ _ _)).below GE.out); clear r3 b3 N3))
        go_wp2
        go_roundw
        case rel => exact ⟨k, by omega, by rw [HGD.out], rfl, NX.out, BX.out⟩
        case measure => simp [intOf]

/-- Lay. -/
theorem hlay_any (a al : Option Addr) (cap cl : Nat) (b l : List Int) (w : World) (hB : IsB w a b) (hbc : b.length ≤ cap) (hcm : cap ≤ maxLen) (hI : IsI w al l) (hl : l.length ≤ maxLen) :
    Calls Tryd.prog 10 #[.slice a b.length cap, .slice al l.length cl] w (LyP w b l) := by
  by_cases h1 : 65542 < b.length
  · exact hlay_long a al cap cl b l w h1 (Nat.le_trans hbc hcm)
  · by_cases h2 : l.length = cntC b.length
    · cases h3 : apC l
      · exact hlay_apart a al cap cl b l w (by omega) h2 hI h3
      · exact hlay_go a al cap cl b l w hB hbc hcm (by omega) h2 hI h3
    · exact hlay_count a al cap cl b l w (by omega) hl h2
end Go.Proofs.YtgmmgklcndnehaaDoor
