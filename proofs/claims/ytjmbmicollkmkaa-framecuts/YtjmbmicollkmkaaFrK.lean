/- What All and Encode answer. -/
import Derived.Test.YtjmbmicollkmkaaFrJ
namespace Go.Proofs.Ytjmbmicollkmkaa
open Go.RowKit
set_option linter.unusedVariables false

/-- A frame in memory. -/
structure Fr where
  k : Int
  a : Option Addr
  c : Nat
  b : List Int

/-- What is wrong with frames: the first error. -/
def allE : List Fr → Int
  | [] => 0
  | f :: l => if unfitL f.k f.b.length = 0 then allE l else unfitL f.k f.b.length
/-- The bytes of frames. -/
def allB : List Fr → List Int
  | [] => []
  | f :: l => frL f.k f.b ++ allB l
def totL : List Fr → Nat
  | [] => 0
  | f :: l => f.b.length + 7 + totL l
def allR (fs : List Fr) : List Int := if allE fs = 0 then allB fs else []

theorem unfit_zero {k : Int} {n : Nat} : unfitL k n = 0 ↔ 1 ≤ k ∧ k ≤ 255 ∧ n ≤ 65535 := by
  unfold unfitL
  split
  · constructor
    · intro h; omega
    · omega
  · split
    · constructor
      · intro h; omega
      · omega
    · constructor <;> omega

theorem allE_drop : ∀ (fs : List Fr) (i : Nat), (∀ j (h : j < fs.length), j < i → unfitL fs[j].k fs[j].b.length = 0) → allE fs = allE (fs.drop i)
  | [], i, _ => by simp
  | f :: l, 0, _ => rfl
  | f :: l, i + 1, h => by
    have h0 := h 0 (by simp) (by omega)
    simp only [List.getElem_cons_zero] at h0
    rw [allE, if_pos h0, List.drop_succ_cons]
    exact allE_drop l i (fun j hj hji => by have := h (j + 1) (by simpa using hj) (by omega); simpa using this)

theorem allB_append : ∀ (a b : List Fr), allB (a ++ b) = allB a ++ allB b
  | [], _ => rfl
  | f :: a, b => by simp [allB, allB_append a b]
theorem totL_append : ∀ (a b : List Fr), totL (a ++ b) = totL a + totL b
  | [], _ => by simp [totL]
  | f :: a, b => by simp [totL, totL_append a b]; omega
theorem allB_take (fs : List Fr) (i : Nat) (h : i < fs.length) : allB (fs.take (i + 1)) = allB (fs.take i) ++ frL fs[i].k fs[i].b := by
  rw [List.take_succ_eq_append_getElem h, allB_append]; simp [allB]
theorem totL_take (fs : List Fr) (i : Nat) (h : i < fs.length) : totL (fs.take (i + 1)) = totL (fs.take i) + (fs[i].b.length + 7) := by
  rw [List.take_succ_eq_append_getElem h, totL_append]; simp [totL]
theorem allB_len : ∀ (fs : List Fr), (allB fs).length = totL fs
  | [] => rfl
  | f :: l => by rw [allB, List.length_append, frL_len, allB_len l, totL]
theorem totL_le : ∀ (fs : List Fr) (i : Nat), (∀ j (h : j < fs.length), j < i → fs[j].b.length ≤ 65535) → totL (fs.take i) ≤ 65542 * i
  | [], i, _ => by simp [totL]
  | f :: l, 0, _ => by simp [totL]
  | f :: l, i + 1, h => by
    have h0 := h 0 (by simp) (by omega)
    simp only [List.getElem_cons_zero] at h0
    have := totL_le l i (fun j hj hji => by have := h (j + 1) (by simpa using hj) (by omega); simpa using this)
    rw [List.take_succ_cons, totL]
    omega
theorem allB_allB : ∀ (fs : List Fr), (∀ f ∈ fs, 1 ≤ f.k ∧ f.k ≤ 255 ∧ AllB f.b) → AllB (allB fs)
  | [], _ => by intro x hx; cases hx
  | f :: l, h => by
    have hf := h f (by simp)
    exact (frL_allB (by omega) hf.2.1 hf.2.2).append (allB_allB l (fun g hg => h g (by simp [hg])))

/-- A slice of frames. -/
structure IsF (w : World) (a : Option Addr) (fs : List Fr) : Prop where
  at' : fs = [] ∨ ∃ b off, a = some ⟨b, off, none⟩ ∧ b < w.heap.size ∧ ∀ i (h : i < fs.length), w.cell? ⟨b, off + i * 2, none⟩ = some (.int .i64 fs[i].k) ∧ w.cell? ⟨b, off + i * 2 + 1, none⟩ = some (.slice fs[i].a fs[i].b.length fs[i].c)
  body : ∀ f ∈ fs, IsB w f.a f.b ∧ (f.a = none → f.b = [] ∧ f.c = 0) ∧ f.b.length ≤ maxLen

theorem IsF.keep {w w' : World} {a : Option Addr} {fs : List Fr} (h : IsF w a fs) (hb : Below w.heap.size w w') : IsF w' a fs where
  at' := by
    rcases h.at' with h0 | ⟨b, off, e, hs, hc⟩
    · exact .inl h0
    · refine .inr ⟨b, off, e, by have := hb.size; omega, fun i hi => ?_⟩
      rw [hb.cell (p := ⟨b, off + i * 2, none⟩) hs, hb.cell (p := ⟨b, off + i * 2 + 1, none⟩) hs]
      exact hc i hi
  body := fun f hf => ⟨(h.body f hf).1.keep hb, (h.body f hf).2⟩

theorem make_bytes (c : Nat) (hc : c ≤ 1000000000000) (w : World) : (Instr.makeSlice 22 (.int .i64 0) (.int .i64 (c : Int))).run Try.prog w = .ok (.slice (some ⟨w.heap.size, 0, none⟩) 0 c) (w.alloc (.cells (madeCells #[.int .u8 0] c) 5)) := by
  obtain ⟨i0, hi, hz0, hz1, hz2⟩ := info_parts Try.info5
  have := run_make (P := Try.prog) w 22 5 i0 (.int .u8 0) Try.underlying22 hi hz0 .i64 .i64 0 c (by omega) (by omega) (by rw [hz2]; omega) (by omega)
  rw [hz1] at this
  simp only [Int.toNat_natCast, Int.toNat_zero, Nat.mul_one] at this
  exact this

set_option maxHeartbeats 2000000 in
theorem all_any (a : Option Addr) (cap n : Nat) (fs : List Fr) (w : World) (hn : n = fs.length) (hF : IsF w a fs) (hm : fs.length ≤ 1000) :
    Calls Try.prog 19 #[.slice a n cap] w fun e w' => ∃ a' cap', e = .returned (.tuple #[.slice a' (allR fs).length cap', .int .i64 (allE fs)]) ∧ OwnsB w' w.heap.size a' (allR fs) cap' ∧ Below w.heap.size w w' := by
  subst hn
  have HF : Hid (IsF w a fs) := hF
  clear hF
  go_enter Try.func19, Try.ntmps19
  go_wp2
  go_loopw [4, 13] (fun sv iv wr => ∃ i : Nat, i ≤ fs.length ∧ iv = .int .i64 i ∧ sv = .int .i64 (totL (fs.take i) : Nat) ∧ (∀ j (h : j < fs.length), j < i → unfitL fs[j].k fs[j].b.length = 0) ∧ Below w.heap.size w wr) (fun _ iv _ => fs.length - (intOf iv).toNat)
  case atStart => exact ⟨0, Nat.zero_le _, rfl, rfl, fun j h hj => by omega, Below.refl _ _⟩
  case round =>
    obtain ⟨i, hi, rfl, rfl, hfit, hB⟩ := hrel
    have HFIT : Hid (∀ j (h : j < fs.length), j < i → unfitL fs[j].k fs[j].b.length = 0) := hfit
    have HB : Hid (Below w.heap.size w _) := hB
    have htl := totL_le fs i (fun j h hj => (unfit_zero.1 (hfit j h hj)).2.2)
    clear hfit
    by_cases hlt : i < fs.length
    · have hF2 := HF.out.keep hB
      obtain h0 | ⟨b, off, rfl, hs, hc⟩ := hF2.at'
      · rw [h0] at hlt; simp at hlt
      obtain ⟨c0, c1⟩ := hc i hlt
      obtain ⟨_, _, hml⟩ := HF.out.body fs[i] (List.getElem_mem hlt)
      have HTT : Hid (totL (fs.take (i + 1)) = totL (fs.take i) + (fs[i].b.length + 7)) := totL_take fs i hlt
      have EA : Hid (allE fs = if unfitL fs[i].k fs[i].b.length = 0 then allE (fs.drop (i + 1)) else unfitL fs[i].k fs[i].b.length) := by
        show _ = _
        rw [allE_drop fs i HFIT.out, List.drop_eq_getElem_cons hlt, allE]
      have HFI : Hid (unfitL fs[i].k fs[i].b.length = 0 → ∀ j (h : j < fs.length), j < i + 1 → unfitL fs[j].k fs[j].b.length = 0) := by
        intro h0 j hj hji
        rcases Nat.lt_or_eq_of_le (Nat.le_of_lt_succ hji) with h | rfl
        · exact HFIT.out j hj h
        · exact h0
      generalize fs[i] = f at *
      obtain ⟨k, fa, fc, fb⟩ := f
      dsimp only at c0 c1 hml HTT EA HFI
      clear hF2 hc hB
      obtain ⟨r, hr⟩ : ∃ r, unfitL k fb.length = r := ⟨_, rfl⟩
      have ER : Hid (unfitL k fb.length = r) := hr
      have hfz : r = 0 → fb.length ≤ 65535 := fun h0 => (unfit_zero.1 (hr.trans h0)).2.2
      rw [hr] at EA HFI
      clear hr
      by_cases hr0 : r = 0
      · subst hr0
        have hfb := hfz rfl
        have HX := HFI.out rfl
        have HFX : Hid (∀ j (h : j < fs.length), j < i + 1 → unfitL fs[j].k fs[j].b.length = 0) := HX
        clear HX hfz
        go_wp2_with (go_at_call 29; refine (unfit_any k fa fb.length fc hml _).mono ?_; rw [ER.out]; rintro e w' ⟨rfl, rfl⟩)
        go_roundw
        case rel => exact ⟨i + 1, by omega, by go_num, by rw [HTT.out]; refine congrArg (Value.int IntKind.i64) ?_; go_num, HFX.out, (HB.out.alloc HB.out.size _).alloc (by have := HB.out.size; simp; omega) _⟩
        case measure => simp [intOf]; omega
      · have hE : allE fs = r := by rw [EA.out, if_neg hr0]
        have HE : Hid (allE fs = r) := hE
        have HR : Hid (allR fs = []) := by show _ = _; rw [allR, hE, if_neg hr0]
        clear hE hfz
        go_wp2_with (go_at_call 29; refine (unfit_any k fa fb.length fc hml _).mono ?_; rw [ER.out]; rintro e w' ⟨rfl, rfl⟩)
        go_ret2
        rw [HE.out, HR.out]
        exact ⟨none, 0, rfl, owns_none _ _, (HB.out.alloc HB.out.size _).alloc (by have := HB.out.size; simp; omega) _⟩
    · obtain rfl : i = fs.length := by omega
      rw [List.take_length] at htl ⊢
      have hE : allE fs = 0 := by rw [allE_drop fs fs.length HFIT.out]; simp [allE]
      have HE : Hid (allE fs = 0) := hE
      have HR : Hid (allR fs = allB fs) := by show _ = _; rw [allR, if_pos hE]
      have HFI : Hid (∀ f ∈ fs, 1 ≤ f.k ∧ f.k ≤ 255 ∧ f.b.length ≤ 65535) := by
        intro f hf
        obtain ⟨j, hj, rfl⟩ := List.getElem_of_mem hf
        exact unfit_zero.1 (HFIT.out j hj hj)
      have hmk := make_bytes (totL fs) (by omega)
      clear hE HFIT hB
      go_wp2
      go_loopw [8, 34] (fun bv iv wr => ∃ (i : Nat) (a' : Option Addr) (c' : Nat), i ≤ fs.length ∧ iv = .int .i64 i ∧ bv = .slice a' (allB (fs.take i)).length c' ∧ OwnsB wr w.heap.size a' (allB (fs.take i)) c' ∧ Below w.heap.size w wr) (fun _ iv _ => fs.length - (intOf iv).toNat)
      case atStart =>
        refine ⟨0, _, _, Nat.zero_le _, rfl, rfl, ?_, HB.out.alloc HB.out.size _⟩
        exact (World.ownsRow_made _ _ _ HB.out.size (by unfold maxLen; omega) (by simp [madeCells]))
      case round =>
        obtain ⟨i, a1, c1, hi, rfl, rfl, hO, hB⟩ := hrel
        have HO : Hid (OwnsB _ w.heap.size a1 (allB (fs.take i)) c1) := hO
        have HB2 : Hid (Below w.heap.size w _) := hB
        have hbl : (allB (fs.take i)).length ≤ 70000000 := by
          rw [allB_len]
          have := totL_le fs i (fun j h hj => (HFI.out _ (List.getElem_mem h)).2.2)
          omega
        by_cases hlt : i < fs.length
        · have hF2 := HF.out.keep hB
          obtain h0 | ⟨b, off, rfl, hs, hc⟩ := hF2.at'
          · rw [h0] at hlt; simp at hlt
          obtain ⟨q0, q1⟩ := hc i hlt
          obtain ⟨hib, hnl, _⟩ := HF.out.body fs[i] (List.getElem_mem hlt)
          obtain ⟨k0, k1, kl⟩ := HFI.out fs[i] (List.getElem_mem hlt)
          have HAT : Hid (allB (fs.take (i + 1)) = allB (fs.take i) ++ frL fs[i].k fs[i].b) := allB_take fs i hlt
          have HAB : Hid (AllB (allB (fs.take i))) := allB_allB _ (fun f hf => by
            have := HFI.out f (List.mem_of_mem_take hf)
            exact ⟨this.1, this.2.1, (HF.out.body f (List.mem_of_mem_take hf)).1.1⟩)
          generalize fs[i] = f at *
          obtain ⟨k, fa, fc, fb⟩ := f
          dsimp only at q0 q1 hib hnl k0 k1 kl HAT
          have HIB : Hid (IsB w fa fb) := hib
          have HNL : Hid (fa = none → fb = [] ∧ fc = 0) := hnl
          clear hF2 hc hB hib hnl hO
          go_wp2_with fail
          refine (appended_any k a1 fa (allB (fs.take i)) fb c1 fc _ _ w.heap.size _ rfl rfl (World.ownsRow.alloc HO.out _) HAB.out ?_ ?_ HNL.out k0 k1 kl (by omega)).mono ?_
          · have := HB2.out.size; simp; omega
          · intro w' hb'
            exact HIB.out.keep ((HB2.out.alloc HB2.out.size _).trans hb')
          rintro e w3 ⟨a3, c3, rfl, o3, b3⟩
          have O3 : Hid (OwnsB w3 w.heap.size a3 (allB (fs.take (i + 1))) c3) := by show OwnsB _ _ _ _ _; rw [HAT.out]; exact o3
          have B3 : Hid (Below w.heap.size w w3) := (HB2.out.alloc HB2.out.size _).trans b3
          rw [← HAT.out]
          clear o3 b3
          go_wp2
          go_roundw
          case rel => exact ⟨i + 1, a3, c3, by omega, by go_num, rfl, O3.out, B3.out⟩
          case measure => simp [intOf]; omega
        · obtain rfl : i = fs.length := by omega
          rw [List.take_length] at HO ⊢
          clear hO hB
          go_wp2
          go_ret2
          rw [HE.out, HR.out]
          exact ⟨a1, c1, rfl, HO.out, HB2.out⟩

/-- What Encode makes of a frame. -/
def encE (k : Int) (n : Nat) : Int := unfitL k n
def encB (k : Int) (body : List Int) : List Int := if unfitL k body.length = 0 then frL k body else []

set_option maxHeartbeats 1000000 in
theorem encode_any (k : Int) (ab : Option Addr) (cb nb : Nat) (body : List Int) (w : World) (hnb : nb = body.length) (hb : IsB w ab body) (hnil : ab = none → body = [] ∧ cb = 0) (hm : body.length ≤ maxLen) :
    Calls Try.prog 11 #[.agg #[.int .i64 k, .slice ab nb cb]] w fun e w' => ∃ a' cap', e = .returned (.tuple #[.slice a' (encB k body).length cap', .int .i64 (encE k body.length)]) ∧ OwnsB w' w.heap.size a' (encB k body) cap' ∧ Below w.heap.size w w' := by
  subst hnb
  have e1 : allE [⟨k, ab, cb, body⟩] = encE k body.length := by
    simp only [allE, encE]; split
    · rename_i h; rw [h]
    · rfl
  have e2 : allR [⟨k, ab, cb, body⟩] = encB k body := by rw [allR, e1, encE, encB]; simp [allB]
  have B1 : Hid (Below w.heap.size w ((w.alloc (.cells #[.int .i64 k, .slice ab body.length cb] 29)).alloc (.cells #[.int .i64 k, .slice ab body.length cb] 29))) := ((Below.refl _ w).alloc (Nat.le_refl _) _).alloc (by simp) _
  have HF : Hid (IsF ((w.alloc (.cells #[.int .i64 k, .slice ab body.length cb] 29)).alloc (.cells #[.int .i64 k, .slice ab body.length cb] 29)) (some ⟨w.heap.size + 1, 0, none⟩) [⟨k, ab, cb, body⟩]) := by
    refine ⟨.inr ⟨w.heap.size + 1, 0, rfl, by simp, fun i hi => ?_⟩, fun f hf => ?_⟩
    · simp at hi
      subst hi
      have hx := boxed_new (w.alloc (.cells #[.int .i64 k, .slice ab body.length cb] 29)) k ab body.length cb
      rw [show (w.alloc (.cells #[.int .i64 k, .slice ab body.length cb] 29)).heap.size = w.heap.size + 1 from by simp] at hx
      exact ⟨hx.cell0, hx.cell1⟩
    · simp at hf
      subst hf
      exact ⟨hb.keep B1.out, hnil, hm⟩
  have E1 : Hid (allE [⟨k, ab, cb, body⟩] = encE k body.length) := e1
  have E2 : Hid (allR [⟨k, ab, cb, body⟩] = encB k body) := e2
  clear e1 e2 hb hnil
  go_enter Try.func11, Try.ntmps11
  go_wp2_with fail
  refine (all_any _ _ _ [⟨k, ab, cb, body⟩] _ rfl HF.out (by simp)).mono ?_
  rw [E1.out, E2.out]
  rintro e w3 ⟨a3, c3, rfl, o3, b3⟩
  have O3 : Hid (OwnsB w3 w.heap.size a3 (encB k body) c3) := o3.mono (by simp; omega)
  have B3 : Hid (Below w.heap.size w w3) := B1.out.trans (b3.mono (by simp; omega))
  clear o3 b3
  go_wp2
  go_ret2
  exact ⟨a3, c3, rfl, O3.out, B3.out⟩
end Go.Proofs.Ytjmbmicollkmkaa
