/- Layer 15: Alloc of a heap, going on. -/
import Derived.Test.YtgdjlopnhecmjaaGreatDoorGzBF
import Derived.Test.YtgdjlopnhecmjaaGreatDoorGzAH
import Derived.RangeFuncNested
import Derived.RangeFuncBound
import Derived.RangeFuncCalls
import Derived.RangeFuncLeaves
import Derived.Shelf.Abstract
import Derived.Shelf.RegionOpen
import Derived.OwnWalkIn
import Derived.TacticsInMore
import Derived.LoopNIn
import Derived.LoopIn
namespace Go.Proofs.YtgdjlopnhecmjaaGreatDoor
open Go.RowKit
set_option linter.unusedVariables false
set_option maxRecDepth 4000

section
variable {w : World} {Λ : Nat → Nat} {hb pa pk pc pn mb q W : Nat} {base : Int} {bs : List Int} {ks : List Kn} {P : Nat} {m : List Sg} {N : Nat} {rs : List HRw} {f : Int → Option Nat}
/-- Take of the places, at a heap. -/
theorem etake_any (h : Ehx w Λ hb pa pk pc pn mb q W base bs ks P m N rs f) (ho : Okc P W m) (v n : Int) (hr : -1 ≤ ofI n ∧ ofI n ≤ 7) (hn7 : ofI n = 7 → 0 ≤ n) (x r : Nat) (m' : List Sg) (hT : takeM P W v n m = (x, r, m')) :
    Calls Tryz.prog 71 #[.pointer (some ⟨pc, 0, none⟩), .int .i64 v, .int .i64 n] w fun e w' => e = .returned (.tuple #[.int .i64 (x : Nat), .int .i64 (r : Nat)]) ∧ ∃ Λ', Ehx w' Λ' hb pa pk pc pn mb q W base bs ks P m' N rs f ∧ Ehm Λ w Λ' w' := by
  obtain ⟨L, hC, hG⟩ := h.ca
  have q := ktake_any L pc P W m v n w hC ho hr hn7
  rw [hT] at q
  exact q.mono (fun e w' ⟨e1, e2⟩ => ⟨e1, _, hG w' _ e2⟩)
theorem emake_any (h : Ehx w Λ hb pa pk pc pn mb q W base bs ks P m N rs f) (kd pl : Int) (hn : nxL rs < N) (x : Nat) (hx : ofN ((nxL rs : Nat) + 1) (makeG rs) = x) :
    Calls Tryz.prog 73 #[.pointer (some ⟨pn, 0, none⟩), .int .i64 kd, .int .i64 pl] w fun e w' => e = .returned (.tuple #[.int .u64 (x : Nat), .int .i64 0]) ∧ ∃ Λ', Ehx w' Λ' hb pa pk pc pn mb q W base bs ks P m N (makeL rs kd pl) f ∧ Ehm Λ w Λ' w' := by
  obtain ⟨B, a, c, hC, hB, hG⟩ := h.nm
  have q := make_any B pn a c N rs kd pl w hC hB hn
  rw [hx] at q
  exact q.mono (fun e w' ⟨a', c', e1, e2, e3, e4⟩ => ⟨e1, _, hG w' a' c' _ e2 e3 e4⟩)
theorem ezero_any (h : Ehx w Λ hb pa pk pc pn mb q W base bs ks P m N rs f) (o n : Int) (ho : 0 ≤ o ∧ o ≤ 2097152) (hn : 0 ≤ n ∧ n ≤ 4096) :
    Calls Tryz.prog 72 #[.pointer (some ⟨pa, 0, none⟩), .int .i64 (base + o), .int .i64 n] w fun e w' => (∃ E, e = .returned (.int .i64 E)) ∧ ∃ Λ', Ehx w' Λ' hb pa pk pc pn mb q W base (zeroR bs o n) ks P m N rs f ∧ Ehm Λ w Λ' w' := by
  obtain ⟨g, hA, hG⟩ := h.ar
  have lo := hA.lo
  have hi' := hA.hi
  have q := zero_any pa g base (base + o) n bs w hA (by unfold Fits; omega) (by unfold Fits; omega)
  rw [show base + o - base = o by omega] at q
  exact q.mono (fun e w' ⟨e1, e2, e3⟩ => ⟨⟨_, e1⟩, _, hG w' _ e2 e3⟩)
theorem ehm_box {Λ Λ' : Nat → Nat} {w w' : World} (h : Ehm Λ w Λ' w') {K : Nat} {o : Obj} (hK : w.heap[K]? = some o) (hl : Λ K = 0) : w'.heap[K]? = some o ∧ Λ' K = 0 :=
  ⟨h.tu.block K o hK (by rw [hl]; omega), (h.ext K (hlt hK)).trans hl⟩
set_option maxRecDepth 20000 in
set_option maxHeartbeats 8000000 in
/-- A place is asked for: none is found, or one. -/
theorem ealloc_any (h : Ehx w Λ hb pa pk pc pn mb q W base bs ks P m N rs f) (ho : Okc P W m) (v : Int) (k : Nat) (hv : 0 ≤ v ∧ v < (W : Int)) (hk : k < ks.length) (hf : nxL rs < N) (hs4 : 1 ≤ (knD ks k).s ∧ (knD ks k).s ≤ 4096) (x r : Nat) (m' : List Sg) (hT : takeM P W v (knD ks k).s m = (x, r, m')) (hr1 : -1 ≤ ofI (knD ks k).s ∧ ofI (knD ks k).s ≤ 7) (hx : x ≤ 1048576) (hq : q < 1000000) (nx : Nat) (hnx : ofN ((nxL rs : Nat) + 1) (makeG rs) = nx) :
    Calls Tryz.prog 24 #[.pointer (some ⟨hb, 0, none⟩), .int .i64 v, .int .i64 (k : Nat)] w fun e w' =>
      (r ≠ 0 → e = .returned (.tuple #[.int .u64 0, .int .i64 (r : Nat)]) ∧ ∃ Λ', Ehx w' Λ' hb pa pk pc pn mb q W base bs ks P m' N rs f ∧ Ehm Λ w Λ' w') ∧
      (r = 0 → e = .returned (.tuple #[.int .u64 (nx : Nat), .int .i64 0]) ∧ ∃ Λ', Ehx w' Λ' hb pa pk pc pn mb (q + 1) W base (zeroR bs x (knD ks k).s) ks P m' N (makeL rs (k : Nat) (x : Nat)) (fun j => if j = (x : Int) then some nx else f j) ∧ Ehm Λ w Λ' w') := by
  have CW : Hid (Calls Tryz.prog 68 #[.pointer (some ⟨hb, 0, none⟩), .int .i64 v] w fun e w' => e = .returned (.int .i64 0) ∧ w = w') := by
    have q := ecw_any h v
    rw [show cwE W v = 0 from if_pos hv] at q
    exact q
  have H : Hid (Ehx w Λ hb pa pk pc pn mb q W base bs ks P m N rs f) := h
  have HO : Hid (Okc P W m) := ho
  have nxb : nx < 4294967296 := by rw [← hnx]; exact of_lt _ _
  obtain ⟨s, hs⟩ : ∃ s, (knD ks k).s = s := ⟨_, rfl⟩
  obtain ⟨l, hl⟩ : ∃ l, (knD ks k).l = l := ⟨_, rfl⟩
  have KG : Hid (Calls Tryz.prog 69 #[.pointer (some ⟨pk, 0, none⟩), .int .i64 (k : Nat)] w fun e w' => ∃ a' c', e = .returned (.tuple #[.agg #[.int .i64 s, .slice a' l.length c'], .int .i64 0]) ∧ OwnsI w' w.heap.size a' l c' ∧ Below w.heap.size w w') := by
    have q := ekget_any h k hk
    rw [hs, hl] at q
    exact q
  have FU : Hid (decide (N ≤ nxL rs) = false) := decide_eq_false (by omega)
  rw [hs] at hs4 hT hr1 ⊢
  have TK : Hid (∀ (w : World) (Λ : Nat → Nat), Ehx w Λ hb pa pk pc pn mb q W base bs ks P m N rs f → Calls Tryz.prog 71 #[.pointer (some ⟨pc, 0, none⟩), .int .i64 v, .int .i64 s] w fun e w' => e = .returned (.tuple #[.int .i64 (x : Nat), .int .i64 (r : Nat)]) ∧ ∃ Λ', Ehx w' Λ' hb pa pk pc pn mb q W base bs ks P m' N rs f ∧ Ehm Λ w Λ' w') := fun w Λ h => etake_any h ho v s hr1 (fun _ => by omega) x r m' hT
  have HF : Hid (nxL rs < N) := hf
  have HNX : Hid (ofN ((nxL rs : Nat) + 1) (makeG rs) = nx) := hnx
  obtain ⟨_, _, c2, _, _, _⟩ := h.cells
  clear h hv hk hf hs hl ho hT hr1 hnx
  by_cases hr0 : r = 0
  · subst hr0
    refine Calls.mono (R := fun e w' => e = .returned (.tuple #[.int .u64 (nx : Nat), .int .i64 0]) ∧ ∃ Λ', Ehx w' Λ' hb pa pk pc pn mb (q + 1) W base (zeroR bs x s) ks P m' N (makeL rs (k : Nat) (x : Nat)) (fun j => if j = (x : Int) then some nx else f j) ∧ Ehm Λ w Λ' w') ?_ (fun e w' q => ⟨fun c => absurd rfl c, fun _ => q⟩)
    go_enter Tryz.func24, Tryz.ntmps24
    go_wp2_with fail
    refine Calls.mono CW.out ?_
    rintro e w' ⟨rfl, rfl⟩
    go_wp2_with fail
    refine Calls.mono KG.out ?_
    rintro e w1 ⟨a1, cc1, rfl, o1, b1⟩
    obtain ⟨E, hE, rE, bE⟩ := kbox15 w1 s (.slice a1 l.length cc1)
    have HE : Hid _ := hE
    have bb : Below w.heap.size w E := b1.trans (bE.mono b1.size)
    obtain ⟨h1, m1⟩ := H.out.keep bb
    have H1 : Hid (Ehx E (lab Λ w.heap.size 0) hb pa pk pc pn mb q W base bs ks P m N rs f) := h1
    have M1 : Hid (Ehm Λ w (lab Λ w.heap.size 0) E) := m1
    obtain ⟨_, _, _, _, d4, _⟩ := h1.cells
    obtain ⟨K, hK⟩ : ∃ K, w1.heap.size = K := ⟨_, rfl⟩
    rw [hK] at rE
    have HK : Hid (w1.heap.size = K) := hK
    have RE : Hid (E.heap[K]? = some (.cells #[.int .i64 s, .slice a1 l.length cc1] 103 (0, 0))) := rE
    have L1 : Hid (lab Λ w.heap.size 0 K = 0) := lab_new (by have := b1.size; omega)
    clear b1 bE rE hE o1 bb h1 m1 hK
    go_upto_region 5 with (fail)
    rw [HE.out]
    try rw [HK.out]
    go_wp2_with fail
    refine (efull_any H1.out false FU.out).mono ?_
    rintro e w3 ⟨rfl, b3⟩
    obtain ⟨h3, m3⟩ := H1.out.keep b3
    have H3 : Hid (Ehx w3 (lab (lab Λ w.heap.size 0) E.heap.size 0) hb pa pk pc pn mb q W base bs ks P m N rs f) := h3
    have M3 : Hid (Ehm Λ w (lab (lab Λ w.heap.size 0) E.heap.size 0) w3) := M1.out.trans m3
    have K3 : Hid (w3.heap[K]? = some (.cells #[.int .i64 s, .slice a1 l.length cc1] 103 (0, 0)) ∧ lab (lab Λ w.heap.size 0) E.heap.size 0 K = 0) := ehm_box m3 RE.out L1.out
    obtain ⟨_, _, _, d3, _, _⟩ := h3.cells
    obtain ⟨x0, _, _, _⟩ := cbx15 K3.out.1
    clear b3 h3 m3 d4
    go_upto_region 9 with (fail)
    go_cut [10, 11] from 37 to 46 (fun ev xv wx => ev = .int .i64 0 ∧ xv = .int .i64 (x : Nat) ∧ ∃ Λ4, Ehx wx Λ4 hb pa pk pc pn mb q W base bs ks P m' N rs f ∧ Ehm Λ w Λ4 wx ∧ wx.heap[K]? = some (.cells #[.int .i64 s, .slice a1 l.length cc1] 103 (0, 0)) ∧ Λ4 K = 0)
    case first =>
      go_region_held3 (fun w' => w'.cell? ⟨hb, 3, none⟩ = some (.pointer (some ⟨pc, 0, none⟩)) ∧ w'.cell? ⟨K, 0, none⟩ = some (.int .i64 s)) (first | assumption | exact ⟨by assumption, by assumption⟩ | go_keep)
        ((go_at_call 71; refine Calls.mono (TK.out _ _ H3.out.drew) ?_; rintro e w4 ⟨rfl, Λ4, h4, m4⟩; have H4 : Hid (Ehx w4 Λ4 hb pa pk pc pn mb q W base bs ks P m' N rs f) := h4; have M4 : Hid (Ehm Λ w Λ4 w4) := M3.out.trans (ehm_drew m4); have K4 : Hid (w4.heap[K]? = some (.cells #[.int .i64 s, .slice a1 l.length cc1] 103 (0, 0)) ∧ Λ4 K = 0) := ehm_box m4 K3.out.1 K3.out.2; obtain ⟨_, _, _, z3, _, _⟩ := h4.cells; obtain ⟨z0, _, _, _⟩ := cbx15 K4.out.1; clear h4 m4))
      all_goals
        go_wp2
        go_meet
        exact ⟨rfl, rfl, Λ4, H4.out, M4.out, K4.out.1, K4.out.2⟩
    case rest =>
      obtain ⟨rfl, rfl, Λ4, h4, m4, k4, l4⟩ := hcut
      rename World => w4
      have H4 : Hid (Ehx w4 Λ4 hb pa pk pc pn mb q W base bs ks P m' N rs f) := h4
      have M4 : Hid (Ehm Λ w Λ4 w4) := m4
      have K4 : Hid (w4.heap[K]? = some (.cells #[.int .i64 s, .slice a1 l.length cc1] 103 (0, 0)) ∧ Λ4 K = 0) := ⟨k4, l4⟩
      obtain ⟨_, e1, _, _, _, _⟩ := h4.cells
      obtain ⟨y0, _, _, _⟩ := cbx15 k4
      clear h4 m4 k4 l4
      go_upto_region 12 with (fail)
      go_cut [] from 50 to 59 (fun wx => ∃ Λ5, Ehx wx Λ5 hb pa pk pc pn mb q W base (zeroR bs x s) ks P m' N rs f ∧ Ehm Λ w Λ5 wx)
      case first =>
        go_region_held3 (fun w' => w'.cell? ⟨hb, 1, none⟩ = some (.pointer (some ⟨pa, 0, none⟩)) ∧ w'.cell? ⟨K, 0, none⟩ = some (.int .i64 s)) (first | assumption | exact ⟨by assumption, by assumption⟩ | go_keep)
          (first
            | (go_at_call 59; refine (eaddr_any H4.out.drew (x : Nat) (by omega)).mono ?_; rintro e wS ⟨rfl, rfl⟩)
            | (go_at_call 72; refine (ezero_any H4.out.drew (x : Nat) s (by omega) (by omega)).mono ?_; rintro e w5 ⟨⟨E5, rfl⟩, Λ5, h5, m5⟩; have H5 : Hid (Ehx w5 Λ5 hb pa pk pc pn mb q W base (zeroR bs x s) ks P m' N rs f) := h5; have M5 : Hid (Ehm Λ w Λ5 w5) := M4.out.trans (ehm_drew m5); obtain ⟨_, z1, _, _, _, _⟩ := h5.cells; obtain ⟨z2, _, _, _⟩ := cbx15 (ehm_box m5 K4.out.1 K4.out.2).1; clear h5 m5))
        all_goals
          go_wp2
          go_meet
          exact ⟨Λ5, H5.out, M5.out⟩
      case rest =>
        obtain ⟨Λ5, h5, m5⟩ := hcut
        rename World => w5
        have H5 : Hid (Ehx w5 Λ5 hb pa pk pc pn mb q W base (zeroR bs x s) ks P m' N rs f) := h5
        have M5 : Hid (Ehm Λ w Λ5 w5) := m5
        obtain ⟨_, _, _, _, f4, _⟩ := h5.cells
        clear h5 m5 e1 y0
        go_wp2_with fail
        refine (emake_any H5.out (k : Nat) (x : Nat) HF.out nx HNX.out).mono ?_
        rintro e w6 ⟨rfl, Λ6, h6, m6⟩
        obtain ⟨hM, hG⟩ := h6.wh
        obtain ⟨w7, run7, hM7, on7⟩ := hM.store hq (i := (x : Nat)) (by omega) nx (by omega)
        obtain ⟨h7, m7⟩ := hG w7 _ _ hM7 on7
        have H7 : Hid (Ehx w7 (lab Λ6 w6.heap.size 6) hb pa pk pc pn mb (q + 1) W base (zeroR bs x s) ks P m' N (makeL rs (k : Nat) (x : Nat)) (fun j => if j = (x : Int) then some nx else f j)) := h7
        have M7 : Hid (Ehm Λ w (lab Λ6 w6.heap.size 6) w7) := (M5.out.trans m6).trans m7
        obtain ⟨_, _, _, _, _, f5⟩ := h6.cells
        clear hM hG hM7 on7 h7 m7 h6 m6 f4
        go_wp2
        go_ret2
        exact ⟨rfl, _, H7.out, M7.out⟩
  · refine Calls.mono (R := fun e w' => e = .returned (.tuple #[.int .u64 0, .int .i64 (r : Nat)]) ∧ ∃ Λ', Ehx w' Λ' hb pa pk pc pn mb q W base bs ks P m' N rs f ∧ Ehm Λ w Λ' w') ?_ (fun e w' q => ⟨fun _ => q, fun c => absurd c hr0⟩)
    have r1 : (((r : Nat) : Int) != 0) = true := by rw [bne_iff_ne]; omega
    go_enter Tryz.func24, Tryz.ntmps24
    go_wp2_with fail
    refine Calls.mono CW.out ?_
    rintro e w' ⟨rfl, rfl⟩
    go_wp2_with fail
    refine Calls.mono KG.out ?_
    rintro e w1 ⟨a1, cc1, rfl, o1, b1⟩
    obtain ⟨E, hE, rE, bE⟩ := kbox15 w1 s (.slice a1 l.length cc1)
    have HE : Hid _ := hE
    have bb : Below w.heap.size w E := b1.trans (bE.mono b1.size)
    obtain ⟨h1, m1⟩ := H.out.keep bb
    have H1 : Hid (Ehx E (lab Λ w.heap.size 0) hb pa pk pc pn mb q W base bs ks P m N rs f) := h1
    have M1 : Hid (Ehm Λ w (lab Λ w.heap.size 0) E) := m1
    obtain ⟨_, _, _, _, d4, _⟩ := h1.cells
    obtain ⟨K, hK⟩ : ∃ K, w1.heap.size = K := ⟨_, rfl⟩
    rw [hK] at rE
    have HK : Hid (w1.heap.size = K) := hK
    have RE : Hid (E.heap[K]? = some (.cells #[.int .i64 s, .slice a1 l.length cc1] 103 (0, 0))) := rE
    have L1 : Hid (lab Λ w.heap.size 0 K = 0) := lab_new (by have := b1.size; omega)
    clear b1 bE rE hE o1 bb h1 m1 hK
    go_upto_region 5 with (fail)
    rw [HE.out]
    try rw [HK.out]
    go_wp2_with fail
    refine (efull_any H1.out false FU.out).mono ?_
    rintro e w3 ⟨rfl, b3⟩
    obtain ⟨h3, m3⟩ := H1.out.keep b3
    have H3 : Hid (Ehx w3 (lab (lab Λ w.heap.size 0) E.heap.size 0) hb pa pk pc pn mb q W base bs ks P m N rs f) := h3
    have M3 : Hid (Ehm Λ w (lab (lab Λ w.heap.size 0) E.heap.size 0) w3) := M1.out.trans m3
    have K3 : Hid (w3.heap[K]? = some (.cells #[.int .i64 s, .slice a1 l.length cc1] 103 (0, 0)) ∧ lab (lab Λ w.heap.size 0) E.heap.size 0 K = 0) := ehm_box m3 RE.out L1.out
    obtain ⟨_, _, _, d3, _, _⟩ := h3.cells
    obtain ⟨x0, _, _, _⟩ := cbx15 K3.out.1
    clear b3 h3 m3 d4
    go_upto_region 9 with (fail)
    go_region_held3 (fun w' => w'.cell? ⟨hb, 3, none⟩ = some (.pointer (some ⟨pc, 0, none⟩)) ∧ w'.cell? ⟨K, 0, none⟩ = some (.int .i64 s)) (first | assumption | exact ⟨by assumption, by assumption⟩ | go_keep)
      ((go_at_call 71; refine Calls.mono (TK.out _ _ H3.out.drew) ?_; rintro e w4 ⟨rfl, Λ4, h4, m4⟩; have H4 : Hid (Ehx w4 Λ4 hb pa pk pc pn mb q W base bs ks P m' N rs f) := h4; have M4 : Hid (Ehm Λ w Λ4 w4) := M3.out.trans (ehm_drew m4); have K4 : Hid (w4.heap[K]? = some (.cells #[.int .i64 s, .slice a1 l.length cc1] 103 (0, 0)) ∧ Λ4 K = 0) := ehm_box m4 K3.out.1 K3.out.2; obtain ⟨_, _, _, z3, _, _⟩ := h4.cells; obtain ⟨z0, _, _, _⟩ := cbx15 K4.out.1; clear h4 m4))
    all_goals
      go_wp2
      go_ret2
      exact ⟨rfl, Λ4, H4.out, M4.out⟩
end
end Go.Proofs.YtgdjlopnhecmjaaGreatDoor

/- Rows from the last one on: slices.Backward, its function's contract. -/
namespace Go.Proofs.YtgdjlopnhecmjaaGreatDoor
open Go.RowKit Go.Shelf
set_option linter.unusedVariables false
set_option maxRecDepth 4000
attribute [local go_sem] Oper.semAt_some

end Go.Proofs.YtgdjlopnhecmjaaGreatDoor

/- Layer 15: a range over a function whose rounds are told by their number: no round leaves it. -/
namespace Go.Proofs.YtgdjlopnhecmjaaGreatDoor
open Go.RowKit Go.Shelf
set_option linter.unusedVariables false
set_option maxRecDepth 4000

/-- What a round keeps: the blocks from b on. -/
structure Kr (b : Nat) (W W' : World) : Prop where
  size : W.heap.size ≤ W'.heap.size
  block : ∀ k, b ≤ k → k < W.heap.size → W'.heap[k]? = W.heap[k]?
theorem Kr.refl (b : Nat) (W : World) : Kr b W W := ⟨Nat.le_refl _, fun _ _ _ => rfl⟩
theorem Kr.trans {b : Nat} {A B C : World} (h : Kr b A B) (k : Kr b B C) : Kr b A C := ⟨Nat.le_trans h.size k.size, fun i h1 h2 => (k.block i h1 (Nat.lt_of_lt_of_le h2 h.size)).trans (h.block i h1 h2)⟩
theorem Kr.put {b l : Nat} {W : World} {o : Obj} (h : l < b) : Kr b W (W.putObj l o) := ⟨by simp, fun k h1 _ => World.putObj_heap_other (by omega)⟩
theorem Kr.below {b : Nat} {W W' : World} (h : Below W.heap.size W W') : Kr b W W' := ⟨h.size, fun k _ h2 => h.block k h2⟩
/-- The iterator's contract: so many rounds, each with the values that belong to its number. -/
def SeqSteps (F : Fence) (n : Nat) (P : Program) (g : Nat) (lb : Array Value) (encs : Nat → Array Value) (I : Nat → World → Prop) (b N : Nat) : Prop :=
  ∀ (l : Nat) (J : Nat → World → Prop) (W : World), b ≤ W.heap.size → (∀ j W, J j W → I j W) → (∀ j W W', J j W → Below W.heap.size W W' → J j W') →
    (∀ j W1, J j W1 → j < N → YieldAt F (n - 1) P l (encs j) W1 fun e W' => e = .returned (.bool true) ∧ J (j + 1) W' ∧ Kr b W1 W') → J 0 W →
    CallsIn F n P g (#[.func (.yield l) #[] #[]] ++ lb) W fun e W' => (∃ v, e = .returned v) ∧ J N W'

/-- How a round may end. -/
def stepPost (w : World) (I : Nat → World → Prop) (j : Nat) (W : World) : Exit → Act → World → Prop := fun e _ W' => e = .normal ∧ I (j + 1) W' ∧ Kr (w.heap.size + 2) W W' ∧ W'.heap[w.heap.size]? = W.heap[w.heap.size]? ∧ W'.heap[w.heap.size + 1]? = W.heap[w.heap.size + 1]?

theorem wpIn_rangeFunc_steps {F : Fence} {n : Nat} {P : Program} {g : Operand} {ps : Array Tmp} {assign body : Code} {Q : Exit → Act → World → Prop} {a : Act} {w : World}
    (hro : F.round = none) (h1 : 1 ≤ n) {gf : Nat} {lb : Array Value} (hg : a.eval g = .func (.func gf) #[] lb) (hFg : F.fn gf) (eg : ∀ args w, (callFunc gf args).run P w = .ok (.enter gf args) w)
    (N : Nat) (encs : Nat → Array Value) (I : Nat → World → Prop) (hseq : SeqSteps F (n - 1) P gf lb encs I (w.heap.size + 2) N) (hps : ∀ j, (encs j).size = ps.size)
    (hIk : ∀ j W W', I j W → Below W.heap.size W W' → I j W')
    (hIp : ∀ j W (r r' : Loop), I j W → W.heap[w.heap.size + 1]? = some (.loop r) → I j (W.putObj (w.heap.size + 1) (.loop r')))
    (Ax : Nat → Act → Prop)
    (hassign : ∀ (l j : Nat) (W : World) (K : Act → World → Prop), I j W → j < N → (∀ a', Ax j a' → K a' W) →
      assign.wpIn (F.inRound l) (n - 1 - 1) P (Exit.then K (fun _ _ _ => False)) { tmps := (ps.zip (encs j)).foldl (fun t (p, v) => t.setIfInBounds p v) a.tmps, defers := [] } W)
    (hbody : ∀ (j : Nat) (a' : Act) (W : World), (∃ r, W.heap[w.heap.size + 1]? = some (.loop r)) → W.heap[w.heap.size]? = some (.deferred (some [])) → I j W → Ax j a' → j < N → body.wpIn (F.inRound (w.heap.size + 1)) (n - 1 - 1) P (stepPost w I j W) a' W)
    (hdone : ∀ (W : World), I N W → W.heap[w.heap.size]? = some (.deferred (some [])) → Q .normal { a with defers := { target := .collected w.heap.size, args := #[] } :: a.defers } W)
    (h00 : I 0 w) :
    (Code.rangeFunc g ps assign body).wpIn F n P Q a w := by
  refine wpIn_rangeFunc (fun fn hfn => ?_)
  rw [hro]
  obtain ⟨L, hL⟩ : ∃ L : LoopState → Loop, L = fun st => { state := st, pending := none, fn := fn, tmps := a.tmps, params := ps, assign := assign, body := body, defers := w.heap.size } := ⟨_, rfl⟩
  obtain ⟨X, hX⟩ : ∃ X, (w.alloc (.deferred (some []))).alloc (.loop (L .ready)) = X := ⟨_, rfl⟩
  have bX : Below w.heap.size w X := by rw [← hX]; exact ((Below.refl _ w).alloc (Nat.le_refl _) _).alloc (by simp) _
  have xl : X.heap[w.heap.size + 1]? = some (.loop (L .ready)) := by
    have := Go.World.alloc_heap_new (w.alloc (.deferred (some []))) (.loop (L .ready))
    rw [World.size_alloc, hX] at this
    exact this
  have xd : X.heap[w.heap.size]? = some (.deferred (some [])) := by
    rw [← hX, ((Below.refl _ (w.alloc (.deferred (some [])))).alloc (Nat.le_refl _) (.loop (L .ready))).block w.heap.size (by simp)]
    exact Go.World.alloc_heap_new w _
  refine ⟨w.heap.size + 1, [{ target := .collected w.heap.size, args := #[] }], X, { target := .fn (.func gf) lb, args := #[.func (.yield (w.heap.size + 1)) #[] #[]] }, X, gf, #[.func (.yield (w.heap.size + 1)) #[] #[]] ++ lb, X, ?_, ?_, ?_, ?_, fun _ => h1, ?_⟩
  · rw [← hX, hL]; exact run_enterLoop_outer _ _ _ _ _
  · simp only [resolve, hg]
    simp [go_sem]
  · intro f' hf'
    simp [Target.leads] at hf'
    subst hf'
    exact hFg
  · simp [invoke, go_sem, eg]
  · refine (hseq (w.heap.size + 1) (fun j W => I j W ∧ W.heap[w.heap.size + 1]? = some (.loop (L .ready)) ∧ W.heap[w.heap.size]? = some (.deferred (some []))) X (by rw [← hX]; simp) (fun j W h => h.1) (fun j W W' h b => ?_) ?_ ⟨hIk 0 w X h00 bX, xl, xd⟩).mono ?_
    · exact ⟨hIk j W W' h.1 b, by rw [b.block _ (hlt h.2.1)]; exact h.2.1, by rw [b.block _ (hlt h.2.2)]; exact h.2.2⟩
    · rintro j W ⟨hi, hl, hd⟩ hj
      have hy := run_yield (P := P) (args := encs j) hl (by rw [hL]; exact hps j)
      rw [hL] at hy
      refine ⟨fn, _, assign, body, hy, roundIn_of_wpIn hfn (hassign _ j W _ hi hj ?_)⟩
      clear hy
      intro a' hax
      refine ⟨_, run_beginRound hl (by rw [hL]), ?_⟩
      have hl2 : (W.putObj (w.heap.size + 1) (.loop { L .ready with state := .busy })).heap[w.heap.size + 1]? = some (.loop { L .ready with state := .busy }) := World.putObj_heap_same (hlt hl)
      have hd2 : (W.putObj (w.heap.size + 1) (.loop { L .ready with state := .busy })).heap[w.heap.size]? = some (.deferred (some [])) := (World.putObj_heap_other (by omega)).trans hd
      refine wpIn_mono (hbody j a' _ ⟨_, hl2⟩ hd2 (hIp j W _ _ hi hl) hax hj) ?_
      rintro e a3 W3 ⟨rfl, hi3, hk3, hd3, hl3⟩
      rw [hl2] at hl3
      rw [hd2] at hd3
      have hr := run_endRound (P := P) none hl3
      refine ⟨_, _, hr, rfl, ⟨hIp _ W3 _ _ hi3 hl3, ?_, (World.putObj_heap_other (by omega)).trans hd3⟩, ((Kr.put (by omega)).trans hk3).trans (Kr.put (by omega))⟩
      rw [World.putObj_heap_same (hlt hl3), hL]
      rfl
    · rintro e W2 ⟨⟨v, rfl⟩, hi, hl, hd⟩
      have he := run_endLoop (P := P) hl (by rw [hL]; simp)
      rw [hL] at he
      refine ⟨none, _, he, hdone _ (hIp _ W2 _ _ hi hl) ((World.putObj_heap_other (by omega)).trans hd)⟩
end Go.Proofs.YtgdjlopnhecmjaaGreatDoor

/- Layer 15: fields of a heap: all pointer fields of all objects, one behind the other. -/
namespace Go.Proofs.YtgdjlopnhecmjaaGreatDoor
open Go.RowKit Go.Shelf
set_option linter.unusedVariables false
set_option maxRecDepth 4000
attribute [local go_sem] Oper.semAt_some

theorem fldU_le (V : Vw) : ∀ {r n : Nat}, r ≤ n → ∃ l, fldU V n = fldU V r ++ l
  | r, 0, h => ⟨[], by have e : r = 0 := (by omega); subst e; simp⟩
  | r, n + 1, h => by
    by_cases e : r = n + 1
    · subst e; exact ⟨[], by simp⟩
    · obtain ⟨l, hl⟩ := fldU_le V (r := r) (n := n) (by omega)
      exact ⟨l ++ (if (rwD V.rs n).live = true then fldR V n else []), by rw [fldU, hl, List.append_assoc]⟩
theorem fldU_at {V : Vw} {r n t : Nat} (hr : r < n) (hl : (rwD V.rs r).live = true) (ht : t < (psOf V r).length) :
    (fldU V r).length + t < (fldU V n).length ∧ (fldU V n).getD ((fldU V r).length + t) 0 = (rwD V.rs r).pl + (psOf V r).getD t 0 ∧ (rwD V.rs r).pl + (psOf V r).getD t 0 ∈ fldU V n := by
  obtain ⟨l, e⟩ := fldU_le V (r := r + 1) (n := n) (by omega)
  have e1 : fldU V (r + 1) = fldU V r ++ fldR V r := by rw [fldU, if_pos hl]
  have hlen : (fldR V r).length = (psOf V r).length := by unfold fldR; simp
  have q : (fldU V n)[(fldU V r).length + t]? = some ((rwD V.rs r).pl + (psOf V r).getD t 0) := by
    rw [e, e1, List.append_assoc, List.getElem?_append_right (by omega), List.getElem?_append_left (by omega)]
    unfold fldR
    rw [List.getElem?_map, show (fldU V r).length + t - (fldU V r).length = t by omega, List.getElem?_eq_getElem ht]
    simp [List.getD, List.getElem?_eq_getElem ht]
  refine ⟨(List.getElem?_eq_some_iff.1 q).1, by rw [List.getD_eq_getElem?_getD, q]; rfl, List.mem_of_getElem? q⟩
theorem fldU_next {V : Vw} (r : Nat) : (fldU V (r + 1)).length = (fldU V r).length + (if (rwD V.rs r).live = true then (psOf V r).length else 0) := by
  rw [fldU, List.length_append]
  split <;> simp [fldR]
theorem word_in {bs : List Int} {o : Int} (h : 0 ≤ o ∧ o + 8 ≤ (bs.length : Int)) : wordR bs o = wordV bs o ∧ errR bs.length o 8 = 0 := by
  have hi : inR bs.length o 8 := ⟨by omega, h.1, h.2⟩
  refine ⟨?_, if_pos hi⟩
  unfold wordR wordV readR
  rw [if_pos hi]
  rfl
/-- Kinds that the iterator has copied. -/
def Fk (b : Nat) (W : World) (Kg : Nat) (ks : List Kn) : Prop := b ≤ Kg ∧ Kg < W.heap.size ∧ ∀ k, k < ks.length → ∃ a c, W.cell? ⟨Kg, k * 2 + 1, none⟩ = some (.slice a (knD ks k).l.length c) ∧ IsI W a (knD ks k).l ∧ ∀ ad, a = some ad → (knD ks k).l ≠ [] → b ≤ ad.block ∧ ad.block < W.heap.size
theorem isI_kr {W W' : World} {a : Option Addr} {l : List Int} (h : IsI W a l) (hz : W.heap.size ≤ W'.heap.size) (hb : ∀ ad, a = some ad → l ≠ [] → ad.block < W.heap.size → W'.heap[ad.block]? = W.heap[ad.block]?) : IsI W' a l := by
  obtain ⟨h1, h2 | ⟨b, off, e, hs, hc⟩⟩ := h
  · exact ⟨h1, .inl h2⟩
  · by_cases hl : l = []
    · exact ⟨h1, .inl hl⟩
    · refine ⟨h1, .inr ⟨b, off, e, Nat.lt_of_lt_of_le hs hz, fun i hi => ?_⟩⟩
      have q : ∀ j, W'.cell? ⟨b, j, none⟩ = W.cell? ⟨b, j, none⟩ := fun j => World.cell?_of_block (hb ⟨b, off, none⟩ e hl hs)
      rw [q]; exact hc i hi
theorem Fk.kr {b Kg : Nat} {W W' : World} {ks : List Kn} (h : Fk b W Kg ks) (k : Kr b W W') : Fk b W' Kg ks := by
  obtain ⟨h1, h2, h3⟩ := h
  refine ⟨h1, Nat.lt_of_lt_of_le h2 k.size, fun i hi => ?_⟩
  obtain ⟨a, c, e1, e2, e3⟩ := h3 i hi
  exact ⟨a, c, (World.cell?_of_block (k.block Kg h1 h2)).trans e1, isI_kr e2 k.size (fun ad e en hs => k.block _ (e3 ad e en).1 hs), fun ad e en => ⟨(e3 ad e en).1, Nat.lt_of_lt_of_le (e3 ad e en).2 k.size⟩⟩
def Fw (b : Nat) (W : World) (a : Option Addr) (rs : List HRw) : Prop := IsW W a rs ∧ ∀ p, a = some p → rs ≠ [] → b ≤ p.block ∧ p.block < W.heap.size
theorem Fw.kr {b : Nat} {W W' : World} {a : Option Addr} {rs : List HRw} (h : Fw b W a rs) (k : Kr b W W') : Fw b W' a rs := by
  obtain ⟨h1, h2⟩ := h
  by_cases hn : rs = []
  · exact ⟨.inl hn, fun p _ e => absurd hn e⟩
  · exact ⟨h1.same k.size (fun p hp => k.block _ (h2 p hp hn).1 (h2 p hp hn).2), fun p hp _ => ⟨(h2 p hp hn).1, Nat.lt_of_lt_of_le (h2 p hp hn).2 k.size⟩⟩
section
variable {hb pa pk pc pn mb q Wn : Nat} {base : Int} {ks : List Kn} {P : Nat} {m : List Sg} {N : Nat} {rs : List HRw} {f : Int → Option Nat}
/-- All of the kinds, at a heap. -/
theorem ekall_any {w : World} {Λ : Nat → Nat} {bs : List Int} (h : Ehx w Λ hb pa pk pc pn mb q Wn base bs ks P m N rs f) :
    Calls Tryz.prog 52 #[.pointer (some ⟨pk, 0, none⟩)] w fun e w' => e = .returned (.slice (some ⟨w.heap.size, 0, none⟩) ks.length ks.length) ∧ Fk w.heap.size w' w.heap.size ks ∧ Below w.heap.size w w' := by
  obtain ⟨b0, lb, ar, cr, xs, hT, he, _⟩ := h.kd
  have hl := kns_len he
  rw [hl]
  refine (tall_any b0 lb pk ar cr xs w hT).mono ?_
  rintro e w' ⟨ys, rfl, hA⟩
  have hz : w.heap.size < w'.heap.size := hlt hA.row
  refine ⟨rfl, ⟨Nat.le_refl _, hz, fun k hk => ?_⟩, hA.below⟩
  have hk' : k < xs.length := by omega
  have hy : k < ys.length := by rw [hA.len]; exact hk'
  obtain ⟨d1, d2, d3⟩ := hA.done k hk' hy hk'
  obtain ⟨e1, e2⟩ := kns_at he hk'
  have al : AllI ys[k].l := by rw [d2]; exact hT.all _ (List.getElem_mem _)
  refine ⟨ys[k].a, ys[k].c, ?_, by rw [e2, ← d2]; exact ownsI_isI al d3, fun ad ea _ => ?_⟩
  · rw [e2, ← d2, cell_of_row _ _ _ _ _ _ hA.row]
    have := (cellsK_at ys k hy).2
    simpa using this
  · have q := d3.parts.2.2.2 ad ea
    exact ⟨q.1, own_iob d3 _ (by rw [ea]; rfl)⟩
theorem enrows_any {w : World} {Λ : Nat → Nat} {bs : List Int} (h : Ehx w Λ hb pa pk pc pn mb q Wn base bs ks P m N rs f) :
    Calls Tryz.prog 53 #[.pointer (some ⟨pn, 0, none⟩)] w fun e w' => ∃ a' c', e = .returned (.slice a' rs.length c') ∧ Ow w' w.heap.size a' rs c' ∧ Below w.heap.size w w' := by
  obtain ⟨B, a, c, hC, _⟩ := h.nm
  exact rows_any B pn a c N rs w hC
end
end Go.Proofs.YtgdjlopnhecmjaaGreatDoor
