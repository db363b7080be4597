/- A sector that was written once since it was sure is, behind a crash, the new one up to a place, the old one from there on: the law DiskTorn, for every input. -/
import Derived.Test.YtddkmmkhlfjhiaaDkM
namespace Go.Proofs.Ytddkmmkhlfjhiaa
open Go.ChangeShapes Go.WideShapes Go.ChangeAt Go.RowKit
set_option linter.unusedVariables false

theorem open_torn {H : Type} {enc : TypeId × Value → H} {W : World} {base : Nat} {v : Value} {d : DataW H} {p : List MemPlace} (hv : Value.okWide Try.prog W .any base 60 v) (h : DataW.Trod enc Try.prog W 0 (fun _ => true) true 60 v d p) :
    ∃ (o f : List Int) (k : Int) (oa : Option Addr) (oc : Nat) (fa : Option Addr) (fc : Nat), v = .agg #[.slice oa o.length oc, .slice fa f.length fc, .int .i64 k] ∧ IsB W oa o ∧ IsB W fa f ∧ -9223372036854775808 ≤ k ∧ k ≤ 9223372036854775807 := by
  obtain ⟨v0, v1, v2, y0, y1, y2, n, rfl, _, _, h0, h1, h2⟩ := Joins.open_agg3 Try.underlying60 (by kernel_rfl) (by kernel_rfl) hv h
  obtain ⟨oa, oc, o, e0, m0, _⟩ := bytes_cells h0
  obtain ⟨fa, fc, f, e1, m1, _⟩ := bytes_cells h1
  obtain ⟨k, e2, _, f2⟩ := DataW.trod_int Try.underlying3 h2
  simp at e0 e1 e2
  subst e0 e1 e2
  exact ⟨o, f, k, oa, oc, fa, fc, rfl, m0, m1, int_of_wf f2⟩

theorem diskTorn_any (m : Nat) (oa fa : Option Addr) (oc fc : Nat) (o f : List Int) (k : Int) (w : World) (hm : m < 256) (hk : -9223372036854775808 ≤ k ∧ k ≤ 9223372036854775807) (hO : IsB w oa o) (hF : IsB w fa f) :
    Calls Try.prog 6 #[.int .u8 (m : Nat), .agg #[.slice oa o.length oc, .slice fa f.length fc, .int .i64 k]] w fun r w' => r = .returned (.bool true) ∧ Below w.heap.size w w' := by
  by_cases h : o.length ≤ 64 ∧ f.length ≤ 64
  · exact torn_fit m oa fa oc fc o f k w hm hk hO hF h.1 h.2
  · exact torn_big _ oa fa oc fc _ _ k w (by omega)

set_option maxRecDepth 100000 in
theorem diskTorn_lifted (os : Os) (started : os.Started) (H : Type) (enc : TypeId × Value → H) :
    ReturnsInHanded {} Try.checked os 6 .any (Rows.diskTornSpec.pre6 enc Try.prog Try.f6 Rows.diskTornRow.domain false) (Rows.diskTornSpec.post enc Try.prog Try.f6 false true false false) := by
  refine returnsInHanded_of_change_sized (C := Try.checked) own started (by kernel_rfl) Try.func6
    (ChangeSpec.witness6 (enc := enc) (C := Try.checked) false ⟨#[], #[.int .u8 0, .agg #[.slice none 0 0, .slice none 0 0, .int .i64 0]], []⟩ 8 (by kernel_rfl) (by kernel_rfl) (by kernel_rfl) (by kernel_rfl)) ?_
  intro W base args ds gs before hval0 hW hcnd hsz0 hholds
  have hval : ∀ (j : Nat) t v, Try.f6.params[j]? = some t → args[j]? = some v → Value.okWide Try.prog W .any base t v := hval0
  have hsz : (DataW.weightsEach Try.prog (Try.f6.params.toList ++ Rows.diskTornSpec.plain.varTypes Try.prog) (ds ++ gs)).all (· ≤ reachBytes) = true := hsz0
  have hW' := hW
  obtain ⟨p, q, hA0, hV, rfl, hfz, hnd⟩ := hW
  have hA : DataW.TrodAll enc Try.prog W 0 (fun _ => true) true Try.f6.params.toList args.toList ds p := hA0
  rw [Try.params6] at hA hval hsz
  obtain ⟨v0, vs0, d0, ds0, p0, q0, hargs, rfl, rfl, h0, r0⟩ := trodAll_cons hA
  obtain ⟨v1, vs1, d1, ds1, p1, q1, rfl, rfl, rfl, h1, r1⟩ := trodAll_cons r0
  obtain ⟨rfl, rfl, rfl⟩ := trodAll_nil r1
  obtain rfl : args = #[v0, v1] := by cases args; simp_all
  obtain ⟨rfl, rfl⟩ := trodVars_none hV
  obtain ⟨a0, rfl, rfl, rfl, w0⟩ := open_int Try.underlying5 (hval 0 5 v0 rfl rfl) h0
  have k1 := h1
  have lt1 : ∀ x ∈ p1, x.block < W.heap.size := by obtain ⟨m, hm⟩ := k1; exact DataW.trod_lt m _ _ _ hm
  obtain ⟨to, tf, tk, oa, oc, fa, fc, rfl, hBo, hBf, hk⟩ := open_torn (hval 1 60 v1 rfl rfl) h1
  clear hA0 hval0
  obtain ⟨m0, rfl, hm0⟩ := u8_of_wf w0
  refine (diskTorn_any m0 oa fa oc fc to tf tk W hm0 hk hBo hBf).mono fun e W' ⟨he, bel⟩ => ?_
  subst he
  exact ⟨_, rfl, _, _, _, [], _, [], hW', trodAll_mk1 (shut_bool Try.underlying4 _), (trodAll_cons_mk (shut_int Try.underlying5 w0) (trodAll_cons_mk (Below.trod laidOut (by kernel_rfl) (of_decide_eq_true (by kernel_rfl)) k1 bel lt1) trodAll_mk0)), rfl, bel.frame _, fun h => by cases h⟩

theorem diskTorn_holds : Rows.DiskTornSaid :=
  OpenClaim.holds_of_wide 6 Try.f6 rfl rfl rfl rfl rfl rfl rfl ⟨rfl, rfl, rfl, rfl, rfl⟩ rfl rfl rfl rfl rfl (by kernel_rfl) Try.func6 (by kernel_rfl)
    (of_decide_eq_true (by kernel_rfl)) (by unfold Func.isWrapper; first | (rw [if_pos (by decide +kernel)]; kernel_rfl) | (rw [if_neg (by decide +kernel)]; exact ⟨rfl, rfl⟩))
    (fun os started H enc _ => diskTorn_lifted os started H enc)
#print axioms diskTorn_holds
end Go.Proofs.Ytddkmmkhlfjhiaa
