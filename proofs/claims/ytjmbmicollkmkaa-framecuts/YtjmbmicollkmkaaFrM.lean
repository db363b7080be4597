/- The document's example of layer 4 comes out: alive answers true, and turns nothing that was there. -/
import Derived.Test.YtjmbmicollkmkaaFrL
namespace Go.Proofs.Ytjmbmicollkmkaa
open Go.RowKit
set_option linter.unusedVariables false

/-- What Encode answers of a frame that is fit, decoded. -/
theorem back_kind (k : Int) (body more : List Int) (al : Bool) (h0 : 1 ≤ k) (h1 : k ≤ 255) (hb : AllB body) (hm : body.length ≤ 65535) (ha : al = false ∨ more = []) : kindW (frL k body ++ more) al = k := by
  rw [kindW, if_pos (frL_right k body more al h0 h1 hb hm ha), frL_first]
theorem back_body (k : Int) (body more : List Int) (al : Bool) (h0 : 1 ≤ k) (h1 : k ≤ 255) (hb : AllB body) (hm : body.length ≤ 65535) (ha : al = false ∨ more = []) : bodyW (frL k body ++ more) al = body := by
  rw [bodyW, if_pos (frL_right k body more al h0 h1 hb hm ha), frL_body k body more hm]
theorem back_rest (k : Int) (body more : List Int) (h0 : 1 ≤ k) (h1 : k ≤ 255) (hb : AllB body) (hm : body.length ≤ 65535) : restW (frL k body ++ more) = more := by
  rw [restW, if_pos (frL_right k body more false h0 h1 hb hm (.inl rfl)), frL_ext k body more hm, frL_rest]

theorem enc_fit (k : Int) (body : List Int) (h0 : 1 ≤ k) (h1 : k ≤ 255) (hm : body.length ≤ 65535) : encE k body.length = 0 ∧ encB k body = frL k body := by
  have := unfit_zero.2 ⟨h0, h1, hm⟩
  exact ⟨this, by rw [encB, if_pos this]⟩

/-- Encode of a frame that is fit. -/
theorem encode_fit (k : Int) (ab : Option Addr) (cb nb : Nat) (body : List Int) (w : World) (hnb : nb = body.length) (hb : IsB w ab body) (hnil : ab = none → body = [] ∧ cb = 0) (h0 : 1 ≤ k) (h1 : k ≤ 255) (hm : body.length ≤ 65535) :
    Calls Try.prog 11 #[.agg #[.int .i64 k, .slice ab nb cb]] w fun e w' => ∃ g cap', e = .returned (.tuple #[.slice (some ⟨g, 0, none⟩) (body.length + 7) cap', .int .i64 0]) ∧ OwnsB w' w.heap.size (some ⟨g, 0, none⟩) (frL k body) cap' ∧ Below w.heap.size w w' := by
  obtain ⟨e1, e2⟩ := enc_fit k body h0 h1 hm
  refine (encode_any k ab cb nb body w hnb hb hnil (by unfold maxLen; omega)).mono ?_
  rw [e1, e2]
  rintro e w' ⟨a', c', rfl, o, b⟩
  obtain ⟨g, rfl⟩ := ownsB_some o (by rw [frL_len]; omega)
  exact ⟨g, c', by rw [frL_len], o, b⟩

/-- Decode, its answer told apart. -/
theorem decode_of (a : Option Addr) (cap n : Nat) (l X : List Int) (k r : Int) (w : World) (hn : n = l.length) (h : IsB w a l) (hc : l.length ≤ cap) (hm : cap ≤ maxLen) (hk : kindW l true = k) (hX : bodyW l true = X) (hr : wrongL l true = r) :
    Calls Try.prog 14 #[.slice a n cap] w fun e w' => ∃ a' cap', e = .returned (.tuple #[.agg #[.int .i64 k, .slice a' X.length cap'], .int .i64 r]) ∧ OwnsB w' w.heap.size a' X cap' ∧ Below w.heap.size w w' := by
  subst hk hX hr
  exact decode_any a cap n l w hn h hc hm

theorem split_of (a : Option Addr) (cap n : Nat) (l X Z : List Int) (k r : Int) (w : World) (hn : n = l.length) (h : IsB w a l) (hc : l.length ≤ cap) (hm : cap ≤ maxLen) (hbig : l.length ≤ 140737488355328) (hk : kindW l false = k) (hX : bodyW l false = X) (hZ : restW l = Z) (hr : wrongL l false = r) :
    Calls Try.prog 16 #[.slice a n cap] w fun e w' => ∃ a' cap' a'' cap'', e = .returned (.tuple #[.agg #[.int .i64 k, .slice a' X.length cap'], .slice a'' Z.length cap'', .int .i64 r]) ∧ OwnsB w' w.heap.size a' X cap' ∧ OwnsB w' w.heap.size a'' Z cap'' ∧ (∀ g, (Value.slice a' X.length cap').ownBlock = some g → (Value.slice a'' Z.length cap'').ownBlock ≠ some g) ∧ Below w.heap.size w w' := by
  subst hk hX hZ hr
  exact split_any a cap n l w hn h hc hm hbig

theorem ex_bytes : AllB [97, 98] := by intro x hx; simp at hx; omega

set_option maxHeartbeats 2000000 in
theorem alive_any (w : World) : Calls Try.prog 9 #[] w fun r w' => r = .returned (.bool true) ∧ Below w.heap.size w w' := by
  have hcv := fun (w : World) (C : Array Value) (n c : Nat) => Lib.run_convert_bytes_const (P := Try.prog) w 22 5 C n c Try.underlying22 Try.underlying5
  have hF := frL_right 1 [97, 98] [] true (by decide) (by decide) ex_bytes (by decide) (.inr rfl)
  have hK := back_kind 1 [97, 98] [] true (by decide) (by decide) ex_bytes (by decide) (.inr rfl)
  have hX := back_body 1 [97, 98] [] true (by decide) (by decide) ex_bytes (by decide) (.inr rfl)
  rw [List.append_nil] at hF hK hX
  have HF : Hid (wrongL (frL 1 [97, 98]) true = 0) := hF
  have HK : Hid (kindW (frL 1 [97, 98]) true = 1) := hK
  have HX : Hid (bodyW (frL 1 [97, 98]) true = [97, 98]) := hX
  clear hF hK hX
  go_enter Try.func9, Try.ntmps9
  go_wp2_with fail
  refine (encode_fit 1 _ 2 2 [97, 98] _ rfl (isB_new w [97, 98] _ ex_bytes) (fun h => by cases h) (by decide) (by decide) (by decide)).mono ?_
  rintro e w2 ⟨g2, c2, rfl, o2, b2⟩
  have B2 : Hid (Below w.heap.size w w2) := ((Below.refl _ w).alloc (Nat.le_refl _) _).trans (b2.mono (by simp))
  have i2 : IsB w2 (some ⟨g2, 0, none⟩) (frL 1 [97, 98]) := ownsB_isB (frL_allB (by decide) (by decide) ex_bytes) o2
  obtain ⟨l2, m2, _⟩ := ownsB_isL o2
  have I2 : Hid (IsB w2 (some ⟨g2, 0, none⟩) (frL 1 [97, 98])) := i2
  have hz2 := B2.out.size
  clear o2 b2 i2
  go_wp2_with fail
  refine (decode_of _ c2 _ (frL 1 [97, 98]) [97, 98] 1 0 w2 (by rw [frL_len]; rfl) I2.out l2 m2 HK.out HX.out HF.out).mono ?_
  rintro e w3 ⟨a3, c3, rfl, o3, b3⟩
  have B3 : Hid (Below w.heap.size w w3) := B2.out.trans (b3.mono hz2)
  have I3 := (I2.out.keep b3).keep ((Below.refl _ w3).alloc (Nat.le_refl _) (.cells #[.int .i64 1, .slice a3 2 c3] 29))
  have f0 := I3.at 0 (by rw [frL_len]; decide)
  have f1 := I3.at 1 (by rw [frL_len]; decide)
  have f3 := I3.at 3 (by rw [frL_len]; decide)
  rw [show (frL 1 [97, 98]).getD 0 0 = 1 from by simp [frL, headL]] at f0
  rw [show (frL 1 [97, 98]).getD 1 0 = 2 from by simp [frL, headL, putL]] at f1
  rw [show (frL 1 [97, 98]).getD 3 0 = 97 from by simp [frL, headL, putL]] at f3
  have k3 := conv_run _ a3 c3 [97, 98] ((ownsB_isB ex_bytes o3).keep ((Below.refl _ w3).alloc (Nat.le_refl _) (.cells #[.int .i64 1, .slice a3 2 c3] 29)))
  rw [show bs [97, 98] = ⟨#[97, 98]⟩ from rfl] at k3
  simp only [Nat.zero_add, List.length_cons, List.length_nil] at f0 f1 f3 k3
  have l2' : 9 ≤ c2 := by rw [frL_len] at l2; simpa using l2
  clear o3 b3 I3
  go_wp2
  go_ret
  exact ⟨rfl, B3.out.alloc B3.out.size _⟩
end Go.Proofs.Ytjmbmicollkmkaa
