/- What Encode of the reference returns; the document's example comes out: alive answers true. -/
import Derived.Test.YtjmbmicollkmkaaFrK
import Derived.Lib.SlBytesConst
namespace Go.Proofs.Ytjmbmicollkmkaa
open Go.RowKit
set_option linter.unusedVariables false

set_option maxHeartbeats 2000000 in
theorem rencode_any (k : Int) (ab : Option Addr) (cb nb : Nat) (body : List Int) (w : World) (hnb : nb = body.length) (hb : IsB w ab body) (hnil : ab = none → body = [] ∧ cb = 0) (hm : body.length ≤ maxLen) :
    Calls Try.prog 12 #[.int .i64 k, .slice ab nb cb] w fun e w' => ∃ a' cap', e = .returned (.tuple #[.slice a' (encB k body).length cap', .int .i64 (encE k body.length)]) ∧ OwnsB w' w.heap.size a' (encB k body) cap' ∧ Below w.heap.size w w' := by
  subst hnb
  have HI : Hid (IsB w ab body) := hb
  have HN : Hid (ab = none → body = [] ∧ cb = 0) := hnil
  have hbl : AllB body := hb.1
  unfold maxLen at hm
  rw [encE]
  by_cases h0 : unfitL k body.length = 0
  · obtain ⟨k0, k1, kl⟩ := unfit_zero.1 h0
    rw [encB, if_pos h0, h0]
    have hhb : AllB (headL k body) := headL_allB (by omega) k1 hbl
    have sb := sumI_bd hhb
    obtain ⟨s, hs⟩ : ∃ s, sumI (headL k body) = s := ⟨_, rfl⟩
    have ES : Hid (sumI (headL k body) = s) := hs
    rw [hs] at sb
    have HH : Hid (AllB (headL k body)) := hhb
    have EF : Hid (frL k body = headL k body ++ putL 4 s) := by show _ = _; rw [frL, hs]
    have kw : IntKind.u8.wrap k = k := by rw [IntKind.wrap_u8]; omega
    have EH : Hid ([k, (body.length : Int) % 256, (body.length : Int) / 256] ++ body = headL k body) := by
      show _ = _
      rw [headL]
      simp only [putL, List.cons_append, List.nil_append, List.cons.injEq, true_and]
      simp only [and_true]
      omega
    have HL : Hid ((headL k body).length = body.length + 3) := headL_len _ _
    have N3 : Hid (AllB [k, (body.length : Int) % 256, (body.length : Int) / 256]) := by
      intro x hx
      simp at hx
      omega
    clear hb hnil hbl hhb h0 hs
    go_enter Try.func12, Try.ntmps12
    have O1 : Hid (OwnsB (w.alloc (.cells #[.int .u8 k, .int .u8 ((body.length : Int) % 256), .int .u8 ((body.length : Int) / 256)] 5)) w.heap.size (some ⟨w.heap.size, 0, none⟩) [k, (body.length : Int) % 256, (body.length : Int) / 256] 3) :=
      World.ownsRow_lit w #[.int .u8 k, .int .u8 ((body.length : Int) % 256), .int .u8 ((body.length : Int) / 256)] 3 (Nat.le_refl _) (by decide) rfl
    have B1 : Hid (Below w.heap.size w (w.alloc (.cells #[.int .u8 k, .int .u8 ((body.length : Int) % 256), .int .u8 ((body.length : Int) / 256)] 5))) := (Below.refl _ w).alloc (Nat.le_refl _) _
    go_wp2_with (first
      | (at_builtin; refine wpList_appg rfl _ _ rfl w.heap.size (by simp) _ [k, (body.length : Int) % 256, (body.length : Int) / 256] 3 _ rfl rfl O1.out ab body cb _ rfl rfl (HI.out.keep B1.out) HN.out (by simp; omega) (headL k body) EH.out (body.length + 3) HL.out ?_; intro a2 c2 w2 o2 g2; have B2 : Hid (Below w.heap.size w w2) := B1.out.grown g2 (by simp) (own_ge' (l := [k, (body.length : Int) % 256, (body.length : Int) / 256]) rfl O1.out); have O2 : Hid (OwnsB w2 w.heap.size a2 (headL k body) c2) := o2; clear o2 g2)
      | (go_at_call 22; refine (rsum_of a2 c2 _ (headL k body) _ HL.out.symm (ownsB_isB HH.out O2.out) (by rw [HL.out]; unfold maxLen; omega)).mono ?_; rw [ES.out]; rintro e w' ⟨rfl, rfl⟩))
    go_loopw [6, 7, 8] (fun ov sv kv wr => ∃ (j : Nat) (a' : Option Addr) (c' : Nat), j ≤ 4 ∧ kv = .int .i64 j ∧ sv = .int .u32 (dv j s) ∧ ov = .slice a' (body.length + 3 + j) c' ∧ OwnsB wr w.heap.size a' (headL k body ++ (putL 4 s).take j) c' ∧ Below w.heap.size w wr) (fun _ _ kv _ => 4 - (intOf kv).toNat)
    case atStart => exact ⟨0, a2, c2, by omega, rfl, rfl, rfl, by simpa using O2.out, B2.out⟩
    case round =>
      obtain ⟨j, a3, c3, hj, rfl, rfl, rfl, hO, hB⟩ := hrel
      have HO : Hid (OwnsB _ w.heap.size a3 (headL k body ++ (putL 4 s).take j) c3) := hO
      have HB : Hid (Below w.heap.size w _) := hB
      have db := dv_bd j s sb.1 sb.2
      have LN : Hid ((headL k body ++ (putL 4 s).take j).length = body.length + 3 + j) := by show _ = _; rw [List.length_append, List.length_take, putL_len, headL_len]; omega
      clear hO hB
      by_cases hj4 : j < 4
      · have hlt : j < (putL 4 s).length := by rw [putL_len]; exact hj4
        have NT : Hid (headL k body ++ (putL 4 s).take j ++ [dv j s % 256] = headL k body ++ (putL 4 s).take (j + 1)) := by
          show _ = _
          rw [List.take_succ_eq_append_getElem hlt, List.append_assoc]
          have := putL_at 4 j s hj4
          simp only [List.getD, List.getElem?_eq_getElem hlt, Option.getD_some] at this
          rw [this]
        have LM : Hid ((headL k body ++ (putL 4 s).take (j + 1)).length = body.length + 3 + (j + 1)) := by show _ = _; rw [List.length_append, List.length_take, putL_len, headL_len]; omega
        clear hlt
        go_wp2_with (at_builtin; refine wpList_appg rfl _ _ rfl w.heap.size (by have := HB.out.size; simp; omega) a3 (headL k body ++ (putL 4 s).take j) c3 _ LN.out.symm rfl (World.ownsRow.alloc HO.out _) _ [dv j s % 256] _ _ rfl rfl (isB_new _ [dv j s % 256] (0, 0) (by intro x hx; simp at hx; omega)) (fun h => by cases h) (by rw [LN.out]; simp; omega) (headL k body ++ (putL 4 s).take (j + 1)) NT.out (body.length + 3 + (j + 1)) LM.out ?_; intro a5 c5 w5 o5 g5)
        have B5 : Hid (Below w.heap.size w w5) := (HB.out.alloc HB.out.size _).grown g5 (by have := HB.out.size; simp; omega) (own_ge' LN.out.symm HO.out)
        go_roundw
        case rel => exact ⟨j + 1, a5, c5, by omega, by go_num, by rw [dv], rfl, o5, B5.out⟩
        case measure => simp [intOf]; omega
      · obtain rfl : j = 4 := by omega
        have EL : Hid (headL k body ++ (putL 4 s).take 4 = frL k body) := by show _ = _; rw [EF.out, List.take_of_length_le (by rw [putL_len]; omega)]
        go_wp2
        go_ret2
        refine ⟨a3, c3, ?_, ?_, HB.out⟩
        · rw [← EL.out, LN.out]; rfl
        · rw [← EL.out]; exact HO.out
  · rw [encB, if_neg h0]
    have hu : unfitL k body.length = if k < 1 ∨ 255 < k then 11 else if 65535 < body.length then 6 else 0 := rfl
    obtain ⟨r, hr⟩ : ∃ r, unfitL k body.length = r := ⟨_, rfl⟩
    rw [hr] at hu h0
    rw [hr]
    clear hr hb hnil hbl
    by_cases c1 : k < 1
    · rw [if_pos (.inl c1)] at hu
      subst hu
      go_enter Try.func12, Try.ntmps12
      go_wp2
      go_ret2
      exact ⟨none, 0, rfl, owns_none _ _, Below.refl _ _⟩
    · by_cases c2 : 255 < k
      · rw [if_pos (.inr c2)] at hu
        subst hu
        go_enter Try.func12, Try.ntmps12
        go_wp2
        go_ret2
        exact ⟨none, 0, rfl, owns_none _ _, Below.refl _ _⟩
      · rw [if_neg (by omega)] at hu
        have c3 : 65535 < body.length := by
          by_cases c : 65535 < body.length
          · exact c
          · rw [if_neg c] at hu; exact absurd hu h0
        rw [if_pos c3] at hu
        subst hu
        go_enter Try.func12, Try.ntmps12
        go_wp2
        go_ret2
        exact ⟨none, 0, rfl, owns_none _ _, Below.refl _ _⟩
end Go.Proofs.Ytjmbmicollkmkaa
