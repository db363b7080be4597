/- Layer 17: RoE again -/
import Derived.Test.YtbfamjnnlcopiaaDoorAuB
import Derived.Test.YtbfamjnnlcopiaaDoorMhA
import Derived.Test.YtbfamjnnlcopiaaDoorGtH
namespace Go.Proofs.YtbfamjnnlcopiaaDoor
open Go.RowKit
set_option linter.unusedVariables false
set_option maxRecDepth 4000
/-- How far the bytes have come. -/
structure BtA (w wr : World) (l : List Int) (a' : Option Addr) (c' k : Nat) (f : Int) (L : List Int) : Prop where
  own : OwnsB wr w.heap.size a' L c'
  below : Below w.heap.size w wr
  body : bodyT l = L ++ gapsL f (l.drop k)
  placed : placedB 65535 f (l.drop k) = true
  f0 : 0 ≤ f
  f1 : f ≤ 65535
  f8 : f % 8 = 0
  len : L.length ≤ 20 + 10 * k
theorem bytesT_ok {l : List Int} (h : rrightT 65535 l = true) : bytesT l = bodyT l ∧ errT l = 0 := ⟨if_pos h, if_pos h⟩
theorem bytesT_no {l : List Int} (h : rrightT 65535 l = false) : bytesT l = [] ∧ errT l = 4 := ⟨if_neg (by rw [h]; decide), if_neg (by rw [h]; decide)⟩

set_option maxRecDepth 20000 in
set_option maxHeartbeats 4000000 in
theorem obytes_any (a : Option Addr) (c : Nat) (l : List Int) (w : World) (hI : IsI w a l) (hm : l.length ≤ maxLen) :
    Calls Tryd.prog 28 #[.slice a l.length c] w fun e w' => ∃ a' c', e = .returned (.tuple #[.slice a' (bytesT l).length c', .int .i64 (errT l)]) ∧ OwnsB w' w.heap.size a' (bytesT l) c' ∧ Below w.heap.size w w' := by
  have HI : Hid (IsI w a l) := hI
  have HM : Hid (l.length ≤ maxLen) := hm
  clear hI hm
  rcases hr : rrightT 65535 l with _ | _
  · obtain ⟨e1, e2⟩ := bytesT_no hr
    have HR : Hid (rrightT 65535 l = false) := hr
    rw [e1, e2]
    clear hr e1 e2
    go_enter Tryd.func28, Tryd.ntmps28
    go_wp2_with (go_at_call 41; refine (oright_is a c _ l 65535 false _ rfl HR.out HI.out HM.out (by omega)).mono ?_; rintro e w1 ⟨rfl, rfl⟩)
    go_ret2
    exact ⟨none, 0, rfl, World.ownsRow_nil _ _ _ _, Below.refl _ _⟩
  · obtain ⟨e1, e2⟩ := bytesT_ok hr
    have HR : Hid (rrightT 65535 l = true) := hr
    obtain ⟨l1, hpl⟩ := right_max.1 hr
    have EB : Hid (bytesT l = bodyT l) := e1
    have HP : Hid (placedB 65535 0 l = true) := hpl
    have V1 := varL_le (l.length : Nat)
    have E0 : Hid (bodyT l = varL (l.length : Nat) ++ gapsL 0 (l.drop 0)) := rfl
    have u2 : IntKind.u64.wrap ((l.length : Nat) : Int) = ((l.length : Nat) : Int) := by rw [IntKind.wrap_u64]; omega
    rw [e2]
    clear hr hpl e1 e2
    go_enter Tryd.func28, Tryd.ntmps28
    go_wp2_with fail
    refine (oright_is a c _ l 65535 true _ rfl HR.out HI.out HM.out (by omega)).mono ?_
    rintro e w1 ⟨rfl, rfl⟩
    go_wp2_with fail
    refine (var_any (l.length : Nat) _ (by omega) (by omega)).mono ?_
    rintro e w2 ⟨rfl, o2, b2⟩
    have S0 : Hid (BtA w w2 l (some ⟨w.heap.size, 0, none⟩) (varL (l.length : Nat)).length 0 0 (varL (l.length : Nat))) := ⟨o2, b2, E0.out, HP.out, by omega, by omega, by omega, by omega⟩
    clear o2 b2 u2
    go_wp2
    go_loopw [4, 5, 17] (fun bv fv iv wr => ∃ (k : Nat) (f : Int) (L : List Int) (a' : Option Addr) (c' : Nat), k ≤ l.length ∧ iv = .int .i64 k ∧ fv = .int .i64 (f) ∧ bv = .slice a' L.length c' ∧ BtA w wr l a' c' k f L) (fun _ _ iv _ => l.length - (intOf iv).toNat)
    case atStart => exact ⟨0, 0, _, _, _, Nat.zero_le _, rfl, rfl, rfl, S0.out⟩
    case round =>
      obtain ⟨k, f, L, a3, c3, hk, rfl, rfl, rfl, hA⟩ := hrel
      have HA : Hid (BtA w wr l a3 c3 k f L) := hA
      have f0 := hA.f0
      have f1 := hA.f1
      have f8 := hA.f8
      have hL := hA.len
      by_cases hlt : k < l.length
      · obtain ⟨hin, h0 | ⟨b, off, rfl, hsz, hc⟩⟩ := HI.out.keep hA.below
        · rw [h0] at hlt; simp at hlt
        have hcell := hc k hlt
        have EP := placed_step 65535 f l k hlt
        have EG := gaps_step f l k hlt
        obtain ⟨p, hp⟩ : ∃ p, l.getD k 0 = p := ⟨_, rfl⟩
        rw [hp] at hcell EP EG
        rw [hA.placed] at EP
        have EP' := EP.symm
        simp only [Bool.and_eq_true, decide_eq_true_eq] at EP'
        obtain ⟨⟨p0, p1, p8⟩, hnp⟩ := EP'
        obtain ⟨q, hq⟩ : ∃ q, (p - f) / 8 = q := ⟨_, rfl⟩
        have q0 : 0 ≤ q := by omega
        have q1 : q ≤ 8192 := by omega
        have HQ : Hid ((p - f) / 8 = q) := by show _ = _; omega
        rw [hq] at EG
        have V3 := varL_le q
        have HVQ : Hid (∀ x ∈ varL q, 0 ≤ x ∧ x ≤ 255) := varL_byte q (by omega) (by omega)
        have NX : Hid (∀ a' c' w', OwnsB w' w.heap.size a' (L ++ varL q) c' → Below w.heap.size w w' → BtA w w' l a' c' (k + 1) (p + 8) (L ++ varL q)) := fun a' c' w' o b =>
          ⟨o, b, by rw [hA.body, EG, List.append_assoc], hnp, by omega, by omega, by omega, by rw [List.length_append]; omega⟩
        clear hc hin hsz hp EP EG hnp hA hq
        go_wp2_with (first
          | (go_at_call 30; rw [HQ.out]; refine (var_any q _ q0 (by omega)).mono ?_; rintro e w3 ⟨rfl, o3, b3⟩; have O2 : Hid (OwnsB w3 _ _ (varL q) _) := o3; have B2 : Hid (Below w.heap.size w w3) := HA.out.below.trans (b3.mono HA.out.below.size); have A2 : Hid (OwnsB w3 w.heap.size a3 L c3) := HA.out.own.keep b3; have z2 := B2.out.size; clear o3 b3)
          | (at_builtin; refine rwpList_app rfl _ _ rfl w.heap.size z2 a3 L c3 rfl A2.out _ (varL q) _ rfl (ownsB_isB HVQ.out O2.out) (fun h => by cases h) (by omega) ?_; intro a4 c4 w4 o4 b4; have X4 : Hid (BtA w w4 l a4 c4 (k + 1) (p + 8) (L ++ varL q)) := NX.out a4 c4 w4 o4 (B2.out.trans b4); clear o4 b4))
        go_roundw
        case rel => exact ⟨k + 1, p + 8, _, a4, c4, by omega, by go_num, rfl, by rw [List.length_append], X4.out⟩
        case measure => simp [intOf]; omega
      · have EL : Hid (bytesT l = L) := by show _ = _; rw [EB.out, hA.body, gaps_end f l k (by omega), List.append_nil]
        clear hA
        go_wp2
        go_ret2
        rw [EL.out]
        exact ⟨a3, c3, rfl, HA.out.own, HA.out.below⟩

end Go.Proofs.YtbfamjnnlcopiaaDoor
