/- Of bytes in pieces the sum is gone on with from piece to piece: the law SumPieces, for every input. -/
import Derived.Test.YtfojmpcdgkolhaaSumM
import Derived.Deep.Matrix
namespace Go.Proofs.Ytfojmpcdgkolhaa
open Go.ChangeShapes Go.WideShapes Go.ChangeAt Go.RowKit
set_option linter.unusedVariables false

/-- A slice of pieces: what its cells hold, and what the pieces are. -/
def IsP (w : World) (a : Option Addr) (n : Nat) (A : Nat → Option Addr) (l : Nat → List Int) (C : Nat → Nat) : Prop :=
  n = 0 ∨ ∃ b off, a = some ⟨b, off, none⟩ ∧ b < w.heap.size ∧ ∀ i, i < n → w.cell? ⟨b, off + i, none⟩ = some (.slice (A i) (l i).length (C i)) ∧ IsB w (A i) (l i) ∧ (A i = none → l i = [] ∧ C i = 0) ∧ (l i).length ≤ maxLen

theorem isP_keep {w w' : World} {a : Option Addr} {n : Nat} {A : Nat → Option Addr} {l : Nat → List Int} {C : Nat → Nat} (h : IsP w a n A l C) (hb : Below w.heap.size w w') : IsP w' a n A l C := by
  obtain h | ⟨b, off, rfl, hs, hc⟩ := h
  · exact .inl h
  · refine .inr ⟨b, off, rfl, by have := hb.size; omega, fun i hi => ?_⟩
    obtain ⟨h1, h2, h3⟩ := hc i hi
    exact ⟨by rw [hb.cell (p := ⟨b, off + i, none⟩) hs]; exact h1, isB_keep h2 hb, h3⟩

/-- The first k pieces, joined. -/
def joinTo (l : Nat → List Int) : Nat → List Int
  | 0 => []
  | k + 1 => joinTo l k ++ l k

theorem joinTo_byte (l : Nat → List Int) : ∀ (k : Nat), (∀ i, i < k → ∀ x ∈ l i, 0 ≤ x ∧ x ≤ 255) → ∀ x ∈ joinTo l k, 0 ≤ x ∧ x ≤ 255
  | 0, _ => by simp [joinTo]
  | k + 1, h => by
    intro x hx
    rcases List.mem_append.1 hx with h' | h'
    · exact joinTo_byte l k (fun i hi => h i (by omega)) x h'
    · exact h k (by omega) x h'

/-- Under way: the first k pieces lie joined in a block of the call's own. -/
def Under (w1 wr : World) (al : Option Addr) (ac : Nat) (l : Nat → List Int) (k : Nat) : Prop :=
  OwnsB wr w1.heap.size al (joinTo l k) ac ∧ (joinTo l k).length ≤ k * 2000 ∧ Below w1.heap.size w1 wr

set_option maxHeartbeats 2000000 in
theorem sumPieces_any (a : Option Addr) (ca n : Nat) (A : Nat → Option Addr) (l : Nat → List Int) (C : Nat → Nat) (w : World) (hP : IsP w a n A l C) (hn : n ≤ maxLen) :
    Calls Try.prog 5 #[.slice a n ca] w fun e w' => e = .returned (.bool true) ∧ Below w.heap.size w w' := by
  have HP : Hid (IsP w a n A l C) := hP
  clear hP
  unfold maxLen at hn
  go_enter Try.func5, Try.ntmps5
  go_wp2_with fail
  refine (alive_any w).mono ?_
  rintro e w1 ⟨rfl, b1⟩
  have P1 : Hid (IsP w1 a n A l C) := isP_keep HP.out b1
  have B1 : Hid (Below w.heap.size w w1) := b1
  clear b1 HP
  go_wp2
  go_loopw [3, 4, 5] (fun av sv iv wr => ∃ (k : Nat) (al : Option Addr) (ac : Nat), k ≤ n ∧ k ≤ 50 ∧ iv = .int .i64 k ∧ av = .slice al (joinTo l k).length ac ∧ sv = .int .u32 (moreL 0 (joinTo l k) : Nat) ∧ Under w1 wr al ac l k) (fun _ _ iv _ => 50 - (intOf iv).toNat)
  case atStart => exact ⟨0, none, 0, Nat.zero_le _, by omega, rfl, rfl, by rw [joinTo, moreL_nil]; rfl, World.ownsRow_nil _ _ _ _, Nat.zero_le _, Below.refl _ _⟩
  case round =>
    obtain ⟨k, al, ac, hkn, hk50, rfl, rfl, rfl, hU⟩ := hrel
    have U : Hid (Under w1 _ al ac l k) := hU
    have JB : Hid (∀ x ∈ joinTo l k, 0 ≤ x ∧ x ≤ 255) := joinTo_byte l k (fun i hi => by
      rcases P1.out with h0 | ⟨b, off, _, _, hc⟩
      · omega
      · exact (hc i (by omega)).2.1.1)
    have JL : (joinTo l k).length ≤ 100000 := by have := hU.2.1; omega
    have IJ : Hid (IsB _ al (joinTo l k)) := ownsB_isB JB.out hU.1
    clear hU
    by_cases hlt : k < n ∧ k < 50
    · obtain ⟨h1, h2⟩ := hlt
      obtain h0 | ⟨b, off, rfl, hbs, hc⟩ := P1.out
      · omega
      obtain ⟨hcell1, hBk, hnil, hmax⟩ := hc k h1
      have BE : Hid (b < w1.heap.size) := hbs
      have hcell := (U.out.2.2.cell (p := ⟨b, off + k, none⟩) hbs).trans hcell1
      have BK1 : Hid (IsB w1 (A k) (l k)) := hBk
      have BK : Hid (IsB _ (A k) (l k)) := isB_keep hBk U.out.2.2
      have NK : Hid (A k = none → l k = [] ∧ C k = 0) := hnil
      have JB2 : Hid (∀ x ∈ joinTo l (k + 1), 0 ≤ x ∧ x ≤ 255) := fun x hx => by
        rcases List.mem_append.1 hx with h | h
        · exact JB.out x h
        · exact hBk.1 x h
      unfold maxLen at hmax
      clear hc hBk hnil hcell1 hbs
      by_cases h2000 : 2000 < (l k).length
      · go_wp2
        go_ret
        exact ⟨rfl, B1.out.trans (U.out.2.2.mono B1.out.size)⟩
      · have hd : decide (2000 < ((l k).length : Int)) = false := by simp; omega
        have HC : Hid (World.cell? _ ⟨b, off + k, none⟩ = some (.slice (A k) (l k).length (C k))) := hcell
        go_wp2_with (at_builtin; refine wpList_app rfl _ _ rfl w1.heap.size U.out.2.2.size al (joinTo l k) ac rfl U.out.1 (A k) (l k) (C k) rfl BK.out NK.out (by omega) ?_; intro a3 c3 w3 o3 b3; have O3 : Hid (OwnsB w3 w1.heap.size a3 (joinTo l (k + 1)) c3) := o3; have B3 : Hid (Below w1.heap.size w1 w3) := U.out.2.2.trans b3; have hcell3 := (b3.cell (p := ⟨b, off + k, none⟩) BE.out).trans HC.out; clear b3 o3 hcell)
        refine (more_any _ (moreL 0 (joinTo l k)) (A k) (C k) (l k) w3 rfl (moreL_lt _ _ JB.out (by decide)) (isB_keep BK1.out B3.out) (by unfold maxLen; omega)).mono ?_
        rintro e w4 ⟨rfl, rfl⟩
        rw [← moreL_append]
        have hlen : (joinTo l k).length + (l k).length = (joinTo l (k + 1)).length := by rw [joinTo, List.length_append]
        have LL : Hid ((joinTo l (k + 1)).length ≤ (k + 1) * 2000) := by have := U.out.2.1; show _ ≤ _; omega
        go_wp2
        go_roundw
        case rel => exact ⟨k + 1, a3, c3, by omega, by omega, by go_num, rfl, rfl, O3.out, LL.out, B3.out⟩
        case measure => simp [intOf]; omega
    · have FIN : Hid (Below w.heap.size w _) := B1.out.trans (U.out.2.2.mono B1.out.size)
      by_cases hkn2 : k < n
      · have hk2 : ¬ k < 50 := fun h => hlt ⟨hkn2, h⟩
        clear hlt
        go_wp2_with fail
        refine (sum_any al ac (joinTo l k) _ IJ.out (by unfold maxLen; omega)).mono ?_
        rintro e w4 ⟨rfl, rfl⟩
        go_wp2_with fail
        refine (sum_of none 0 0 [] _ rfl ⟨by simp, .inl rfl⟩ (by decide)).mono ?_
        rintro e w5 ⟨rfl, rfl⟩
        rw [moreL_nil]
        go_wp2
        go_ret
        exact ⟨rfl, FIN.out⟩
      · clear hlt
        go_wp2_with fail
        refine (sum_any al ac (joinTo l k) _ IJ.out (by unfold maxLen; omega)).mono ?_
        rintro e w4 ⟨rfl, rfl⟩
        go_wp2_with fail
        refine (sum_of none 0 0 [] _ rfl ⟨by simp, .inl rfl⟩ (by decide)).mono ?_
        rintro e w5 ⟨rfl, rfl⟩
        rw [moreL_nil]
        go_wp2
        go_ret
        exact ⟨rfl, FIN.out⟩

theorem Try.cellsBytes : Try.prog.cellsOf 23 = 1 := by kernel_rfl
theorem Try.cellsByte : Try.prog.cellsOf 5 = 1 := by kernel_rfl

theorem open_pieces {H : Type} {enc : TypeId × Value → H} {W : World} {a : Option Addr} {len cap : Nat} {d : DataW H} {p : List MemPlace} (h : DataW.Trod enc Try.prog W 0 (fun _ => true) true 31 (.slice a len cap) d p) :
    ∃ (A : Nat → Option Addr) (l : Nat → List Int) (C : Nat → Nat), IsP W a len A l C ∧ len ≤ maxLen := by
  obtain ⟨fuel, hf⟩ := h
  rcases Deep.open_int_rows Try.underlying31 Try.underlying23 Try.underlying5 Try.cellsBytes Try.cellsByte hf with ⟨hcs, hx⟩ | ⟨x, l', c', A, L, C, Z, hcs, _, hl, hm, _, hr⟩
  · simp [Value.cells] at hcs
    obtain ⟨rfl, rfl, rfl⟩ := hcs
    exact ⟨fun _ => none, fun _ => [], fun _ => 0, .inl rfl, Nat.zero_le _⟩
  · simp [Value.cells] at hcs
    obtain ⟨rfl, rfl, rfl⟩ := hcs
    refine ⟨A, fun i => (Z i).take (L i), C, ?_, by omega⟩
    by_cases h0 : len = 0
    · exact .inl h0
    · obtain ⟨b, off, spot⟩ := x
      have h1 := (hr 0 (by omega)).1
      have hspot : spot = none := by simpa [Addr.add] using World.cell?_spot h1
      subst hspot
      refine .inr ⟨b, off, rfl, ?_, ?_⟩
      · rw [addr_add] at h1
        exact lt_of_cell h1
      · intro i hi
        obtain ⟨g1, g2, g3, g4, g5, g6, g7⟩ := hr i (by omega)
        have hlen : ((Z i).take (L i)).length = L i := by rw [List.length_take]; omega
        show W.cell? ⟨b, off + i, none⟩ = some (Value.slice (A i) ((Z i).take (L i)).length (C i)) ∧ IsB W (A i) ((Z i).take (L i)) ∧ (A i = none → (Z i).take (L i) = [] ∧ C i = 0) ∧ ((Z i).take (L i)).length ≤ maxLen
        rw [hlen]
        refine ⟨?_, ?_, ?_, ?_⟩
        · rw [← addr_add]; exact g1
        · rcases hA : A i with _ | a'
          · have := g6 hA
            refine ⟨fun x hx => byte_of_wf (g5 x (List.mem_of_mem_take hx)), .inl ?_⟩
            exact List.eq_nil_of_length_eq_zero (by omega)
          · exact isB_of_cells a' (L i) (Z i) (by omega) (fun j hj => (g7 a' hA).2 j (by omega)) g5
        · intro hA
          have := g6 hA
          exact ⟨List.eq_nil_of_length_eq_zero (by omega), this⟩
        · omega

set_option maxRecDepth 100000 in
theorem sumPieces_lifted (os : Os) (started : os.Started) (H : Type) (enc : TypeId × Value → H) :
    ReturnsInHanded {} Try.checked os 5 .any (Rows.sumPiecesSpec.pre6 enc Try.prog Try.f5 Rows.sumPiecesRow.domain false) (Rows.sumPiecesSpec.post enc Try.prog Try.f5 false true false false) := by
  refine returnsInHanded_of_change (C := Try.checked) own started (by kernel_rfl) Try.func5
    (ChangeSpec.witness6 (enc := enc) (C := Try.checked) false ⟨#[], #[.slice none 0 0], []⟩ 8 (by kernel_rfl) (by kernel_rfl) (by kernel_rfl) (by kernel_rfl)) ?_
  intro W base args ds gs before hval0 hW hcnd _
  have hval : ∀ (j : Nat) t v, Try.f5.params[j]? = some t → args[j]? = some v → Value.okWide Try.prog W .any base t v := hval0
  have hW' := hW
  obtain ⟨p, q, hA0, hV, rfl, hfz, hnd⟩ := hW
  have hA : DataW.TrodAll enc Try.prog W 0 (fun _ => true) true Try.f5.params.toList args.toList ds p := hA0
  rw [Try.params5] at hA hval
  obtain ⟨v0, vs0, d0, ds0, p0, q0, hargs, rfl, rfl, h0, r0⟩ := trodAll_cons hA
  obtain ⟨rfl, rfl, rfl⟩ := trodAll_nil r0
  obtain rfl : args = #[v0] := by cases args; simp_all
  obtain ⟨rfl, rfl⟩ := trodVars_none hV
  obtain ⟨a0, len0, cap0, rfl⟩ := okWide_slice Try.underlying31 (hval 0 31 v0 rfl rfl)
  have k0 := h0
  have lt0 : ∀ x ∈ p0, x.block < W.heap.size := by obtain ⟨m, hm⟩ := k0; exact DataW.trod_lt m _ _ _ hm
  obtain ⟨A, l, C, hP, hm0⟩ := open_pieces h0
  clear hA0 hval0
  refine (sumPieces_any a0 cap0 len0 A l C W hP hm0).mono fun e W' ⟨he, bel⟩ => ?_
  subst he
  exact ⟨_, rfl, _, _, _, [], _, [], hW', trodAll_mk1 (shut_bool Try.underlying4 _), (trodAll_cons_mk (Below.trod laidOut (by kernel_rfl) (of_decide_eq_true (by kernel_rfl)) k0 bel lt0) trodAll_mk0), rfl, bel.frame _, fun h => by cases h⟩

theorem sumPieces_holds : Rows.SumPiecesSaid :=
  OpenClaim.holds_of_wide 5 Try.f5 rfl rfl rfl rfl rfl rfl rfl ⟨rfl, rfl, rfl, rfl, rfl⟩ rfl rfl rfl rfl rfl (by kernel_rfl) Try.func5 (by kernel_rfl)
    (of_decide_eq_true (by kernel_rfl)) (by unfold Func.isWrapper; first | (rw [if_pos (by decide +kernel)]; kernel_rfl) | (rw [if_neg (by decide +kernel)]; exact ⟨rfl, rfl⟩))
    (fun os started H enc _ => sumPieces_lifted os started H enc)
#print axioms sumPieces_holds
end Go.Proofs.Ytfojmpcdgkolhaa
