/- A burst of 32 bits is seen: the law SumBursts, for every input. -/
import Derived.Test.YtfojmpcdgkolhaaSumM
namespace Go.Proofs.Ytfojmpcdgkolhaa
open Go.ChangeShapes Go.WideShapes Go.ChangeAt Go.RowKit
set_option linter.unusedVariables false

/-- Under way: the bytes c in a block of the call's own are x with e laid over it from bit p on. -/
def TurnedBy (w wr : World) (a3 : Option Addr) (x : List Int) (p k : Nat) (t : Bool) (c : List Int) (e : Nat) : Prop :=
  c.length = x.length ∧ e < 2 ^ k ∧ numB c = numB x ^^^ (e <<< p) ∧ (e ≠ 0 → p < 8 * x.length) ∧ t = decide (e ≠ 0) ∧ (∀ b ∈ c, 0 ≤ b ∧ b ≤ 255) ∧ (c = [] ∨ ∃ g, a3 = some ⟨g, 0, none⟩ ∧ w.heap.size ≤ g ∧ g < wr.heap.size ∧ ∀ i, i < c.length → wr.cell? ⟨g, i, none⟩ = some (.int .u8 (c.getD i 0)) ∧ wr.frozen? ⟨g, i, none⟩ = false) ∧ Below w.heap.size w wr

def Turned (w wr : World) (a3 : Option Addr) (x : List Int) (p k : Nat) (t : Bool) : Prop := ∃ (c : List Int) (e : Nat), TurnedBy w wr a3 x p k t c e

theorem turned_start {w w3 : World} {base cap : Nat} {a3 : Option Addr} {x : List Int} (p : Nat) (hx : ∀ b ∈ x, 0 ≤ b ∧ b ≤ 255) (hb : w.heap.size ≤ base) (h : OwnsB w3 base a3 x cap) (hbel : Below w.heap.size w w3) : Turned w w3 a3 x p 0 false := by
  refine ⟨x, 0, rfl, by decide, by simp, by simp, by simp, hx, ?_, hbel⟩
  have h' := h
  obtain ⟨_, ⟨h1, h2⟩ | ⟨g, c', cur, h1, hg, h2, _⟩⟩ := h
  · exact .inl (List.eq_nil_of_length_eq_zero h2)
  · cases h1
    refine .inr ⟨g, rfl, by omega, (Array.getElem?_eq_some_iff.1 h2).1, ?_⟩
    intro i hi
    have := World.ownsRow.cellAt h' i (by omega)
    refine ⟨?_, ?_⟩
    · rw [this]; simp [List.getD, hi]
    · simp [World.frozen?, h2]

theorem turned_skip {w wr : World} {a3 : Option Addr} {x : List Int} {p k : Nat} {t : Bool} (h : Turned w wr a3 x p k t) : Turned w wr a3 x p (k + 1) t := by
  obtain ⟨c, e, h1, h2, h3⟩ := h
  exact ⟨c, e, h1, by rw [Nat.pow_succ]; omega, h3⟩

theorem bit_byte (v : Int) (j : Nat) (h0 : 0 ≤ v) (h1 : v ≤ 255) (hj : j < 8) : bits BinOp.xor IntKind.u8 v ((2 : Int) ^ j % 256) = ((v.toNat ^^^ 2 ^ j : Nat) : Int) := by
  have : j = 0 ∨ j = 1 ∨ j = 2 ∨ j = 3 ∨ j = 4 ∨ j = 5 ∨ j = 6 ∨ j = 7 := by omega
  have e := fun b (hb : 0 ≤ b) (hb1 : b < 256) => u8_xor v b h0 (by omega) hb hb1
  rcases this with rfl | rfl | rfl | rfl | rfl | rfl | rfl | rfl
  · exact e 1 (by decide) (by decide)
  · exact e 2 (by decide) (by decide)
  · exact e 4 (by decide) (by decide)
  · exact e 8 (by decide) (by decide)
  · exact e 16 (by decide) (by decide)
  · exact e 32 (by decide) (by decide)
  · exact e 64 (by decide) (by decide)
  · exact e 128 (by decide) (by decide)

theorem cell_set_same (w : World) (g i : Nat) (v : Value) (h : (w.cell? ⟨g, i, none⟩).isSome) : (w.setCell ⟨g, i, none⟩ v).cell? ⟨g, i, none⟩ = some v := by
  cases hb : w.heap[g]? with
  | none => simp [World.cell?, hb] at h
  | some o =>
    cases o with
    | cells c t fr =>
      simp [World.cell?, hb] at h
      simp [World.setCell, World.cell?, Array.getElem?_modify, hb, h]
    | _ => simp [World.cell?, hb] at h

theorem cell_set_other (w : World) (g i j : Nat) (v : Value) (h : i ≠ j) : (w.setCell ⟨g, i, none⟩ v).cell? ⟨g, j, none⟩ = w.cell? ⟨g, j, none⟩ := by
  cases hb : w.heap[g]? with
  | none => simp [World.setCell, World.cell?, Array.getElem?_modify, hb]
  | some o =>
    cases o with
    | cells c t fr => simp [World.setCell, World.cell?, Array.getElem?_modify, hb, Array.getElem?_setIfInBounds_ne h]
    | _ => simp [World.setCell, World.cell?, Array.getElem?_modify, hb]

theorem frozen_set (w : World) (g i j : Nat) (v : Value) : (w.setCell ⟨g, i, none⟩ v).frozen? ⟨g, j, none⟩ = w.frozen? ⟨g, j, none⟩ := by
  cases hb : w.heap[g]? with
  | none => simp [World.setCell, World.frozen?, Array.getElem?_modify, hb]
  | some o =>
    cases o with
    | cells c t fr => simp [World.setCell, World.frozen?, Array.getElem?_modify, hb]
    | _ => simp [World.setCell, World.frozen?, Array.getElem?_modify, hb]

theorem turned_next {w wr : World} {g : Nat} {x : List Int} {p k : Nat} {t : Bool} {c : List Int} {e : Nat} (h : TurnedBy w wr (some ⟨g, 0, none⟩) x p k t c e) (hin : p + k < 8 * x.length) (hq : (p + k) / 8 < c.length) :
    Turned w (wr.setCell ⟨g, (p + k) / 8, none⟩ (.int .u8 (bits BinOp.xor IntKind.u8 c[(p + k) / 8] ((2 : Int) ^ ((p + k) % 8) % 256)))) (some ⟨g, 0, none⟩) x p (k + 1) true := by
  obtain ⟨h1, h2, h3, h4, h5, h6, h7, h8⟩ := h
  obtain h7 | ⟨g', hg', h7a, h7b, h7⟩ := h7
  · rw [h7] at hq; simp at hq
  cases hg'
  have hv := h6 _ (List.getElem_mem hq)
  have hk : 2 ^ k < 2 ^ (k + 1) := by rw [Nat.pow_succ]; have := Nat.two_pow_pos k; omega
  have hne : e ^^^ 2 ^ k ≠ 0 := by
    intro h0
    have : e = 2 ^ k := xor_back _ _ (2 ^ k) (by rw [h0, Nat.xor_self])
    omega
  have hj : (p + k) % 8 < 8 := Nat.mod_lt _ (by decide)
  have hpow : 2 ^ ((p + k) % 8) < 256 := by
    have : 2 ^ ((p + k) % 8) < 2 ^ 8 := Nat.pow_lt_pow_right (by decide) hj
    exact this
  rw [bit_byte _ _ hv.1 hv.2 hj]
  refine ⟨c.set ((p + k) / 8) ((c[(p + k) / 8].toNat ^^^ 2 ^ ((p + k) % 8) : Nat) : Int), e ^^^ 2 ^ k, by simp [h1], Nat.xor_lt_two_pow (by omega) hk, ?_, fun _ => by omega, by simp [hne], ?_, .inr ⟨g, rfl, h7a, by simpa [World.setCell] using h7b, ?_⟩, h8.setCell h7a _⟩
  · rw [numB_set c _ _ (fun d hd => (h6 d hd).1) hq, h3, Nat.shiftLeft_xor_distrib, Nat.xor_assoc]
    congr 2
    rw [Nat.shiftLeft_eq, Nat.shiftLeft_eq, ← Nat.pow_add, ← Nat.pow_add]
    congr 1
    omega
  · intro b hb
    rcases List.mem_or_eq_of_mem_set hb with hb | rfl
    · exact h6 b hb
    · have : c[(p + k) / 8].toNat ^^^ 2 ^ ((p + k) % 8) < 2 ^ 8 := Nat.xor_lt_two_pow (by omega) hpow
      omega
  · intro i hi
    rw [List.length_set] at hi
    obtain ⟨ha, hb⟩ := h7 i hi
    refine ⟨?_, by rw [frozen_set]; exact hb⟩
    by_cases hiq : (p + k) / 8 = i
    · subst hiq
      rw [cell_set_same _ _ _ _ (by rw [ha]; rfl)]
      simp [List.getD, hi]
    · rw [cell_set_other _ _ _ _ _ hiq, ha]
      simp [List.getD, List.getElem?_set_ne hiq]

set_option maxHeartbeats 2000000 in
theorem sumBursts_any (a : Option Addr) (ca : Nat) (x : List Int) (p m : Nat) (hp : p < 65536) (hm : m < 4294967296) (w : World) (hx : IsB w a x) (nx : a = none → x = [] ∧ ca = 0) (lx : x.length ≤ maxLen) :
    Calls Try.prog 8 #[.slice a x.length ca, .int .u16 p, .int .u32 m] w fun e w' => e = .returned (.bool true) ∧ Below w.heap.size w w' := by
  have NX : Hid (a = none → x = [] ∧ ca = 0) := nx
  have HX : Hid (IsB w a x) := hx
  clear nx hx
  unfold maxLen at lx
  by_cases hs : x.length ≤ 5000 ∧ m ≠ 0
  · obtain ⟨sx, sm⟩ := hs
    have h5 : decide (5000 < (x.length : Int)) = false := by simp; omega
    go_enter Try.func8, Try.ntmps8
    go_wp2_with fail
    refine (alive_any w).mono ?_
    rintro e w1 ⟨rfl, b1⟩
    have X1 : Hid (IsB w1 a x) := isB_keep HX.out b1
    have B1 : Hid (Below w.heap.size w w1) := b1
    clear b1
    go_wp2_with (at_builtin; refine wpList_app rfl _ _ rfl w1.heap.size (by simp) _ [] 0 rfl (ownsB_made w1) a x ca rfl (isB_keep X1.out ((Below.refl _ _).alloc (Nat.le_refl _) _)) NX.out (by simp; omega) ?_; intro a3 c3 w3 o3 b3; rw [List.nil_append] at o3 ⊢; have B3 : Hid (Below w1.heap.size w1 w3) := ((Below.refl _ w1).alloc (Nat.le_refl _) _).trans b3; have O3 : Hid (OwnsB w3 w1.heap.size a3 x c3) := o3; clear b3 o3)
    have T0 : Hid (Turned w1 w3 a3 x p 0 false) := turned_start p HX.out.1 (Nat.le_refl _) O3.out B3.out
    go_loopw [8, 9] (fun tv kv wr => ∃ (k : Nat) (t : Bool), k ≤ 32 ∧ tv = .bool t ∧ kv = .int .i64 k ∧ Turned w1 wr a3 x p k t) (fun _ kv _ => 32 - (intOf kv).toNat)
    case atStart => exact ⟨0, false, by omega, rfl, rfl, T0.out⟩
    case round =>
      obtain ⟨k, t, hk, rfl, rfl, hT⟩ := hrel
      have T : Hid (Turned w1 _ a3 x p k t) := hT
      by_cases hk32 : k < 32
      · by_cases hodd : m / 2 ^ k % 2 = 1
        · have ht : ((m : Int) / 2 ^ k).tmod 2 = 1 := by rw [shr_bit, hodd]; rfl
          clear hodd
          by_cases hin : p + k < 8 * x.length
          · obtain ⟨c, e, hTB⟩ := hT
            have TB : Hid (TurnedBy w1 _ a3 x p k t c e) := hTB
            obtain ⟨hc1, hc2, hc3, hc4, hc5, hc6, hc7 | ⟨g, rfl, hg1, hg2, hc7⟩, hc8⟩ := hTB
            · rw [hc7] at hc1; simp at hc1; omega
            have hq : (p + k) / 8 < c.length := by omega
            obtain ⟨hcell, hfr⟩ := hc7 ((p + k) / 8) hq
            clear hc1 hc2 hc3 hc4 hc5 hc6 hc7 hc8
            go_wp2
            go_roundw
            case rel => exact ⟨k + 1, true, by omega, rfl, by go_num, turned_next TB.out hin hq⟩
            case measure => simp [intOf]; omega
          · clear hT
            go_wp2
            go_roundw
            case rel => exact ⟨k + 1, t, by omega, rfl, by go_num, turned_skip T.out⟩
            case measure => simp [intOf]; omega
        · have ht : ((m : Int) / 2 ^ k).tmod 2 = 0 := by rw [shr_bit, show m / 2 ^ k % 2 = 0 from by omega]; rfl
          clear hodd hT
          go_wp2
          go_roundw
          case rel => exact ⟨k + 1, t, by omega, rfl, by go_num, turned_skip T.out⟩
          case measure => simp [intOf]; omega
      · obtain rfl : k = 32 := by omega
        obtain ⟨c, e, h1, h2, h3, h4, rfl, h6, h7, h8⟩ := hT
        have law := burst_law x c p e h1 h3 h2 h4
        have IC : Hid (IsB _ a3 c) := ⟨h6, by
          rcases h7 with h | ⟨g, hg, _, hg2, h⟩
          · exact .inl h
          · exact .inr ⟨g, 0, hg, hg2, fun i hi => by rw [Nat.zero_add]; exact (h i hi).1⟩⟩
        have IX : Hid (IsB _ a x) := isB_keep X1.out h8
        have H1 : Hid (c.length = x.length) := h1
        have FIN : Hid (Below w.heap.size w _) := B1.out.trans (h8.mono B1.out.size)
        clear T h1 h2 h3 h4 h6 h7 h8
        by_cases h0 : e = 0
        · subst h0
          have hl := law.2 rfl
          clear law
          go_wp2_with fail
          refine (sum_of a3 c3 x.length c _ H1.out.symm IC.out (by rw [H1.out]; unfold maxLen; omega)).mono ?_
          rintro e w5 ⟨rfl, rfl⟩
          rw [hl]
          go_wp2_with fail
          refine (sum_of a ca x.length x _ rfl IX.out (by unfold maxLen; omega)).mono ?_
          rintro e w6 ⟨rfl, rfl⟩
          go_wp2
          go_ret
          exact ⟨rfl, FIN.out⟩
        · have hl : ¬ ((moreL 0 c : Nat) : Int) = ((moreL 0 x : Nat) : Int) := fun h => h0 (law.1 (by omega))
          clear law
          go_wp2_with fail
          refine (sum_of a3 c3 x.length c _ H1.out.symm IC.out (by rw [H1.out]; unfold maxLen; omega)).mono ?_
          rintro e w5 ⟨rfl, rfl⟩
          go_wp2_with fail
          refine (sum_of a ca x.length x _ rfl IX.out (by unfold maxLen; omega)).mono ?_
          rintro e w6 ⟨rfl, rfl⟩
          go_wp2
          go_ret
          exact ⟨congrArg (fun b => Ending.returned (.bool b)) (bne_iff_ne.2 hl), FIN.out⟩
  · go_enter Try.func8, Try.ntmps8
    go_wp2_with fail
    refine (alive_any w).mono ?_
    rintro e w1 ⟨rfl, b1⟩
    by_cases hx5 : x.length ≤ 5000
    · obtain rfl : m = 0 := by
        by_cases h : m = 0
        · exact h
        · exact absurd ⟨hx5, h⟩ hs
      clear hs
      go_wp2
      go_ret
      exact ⟨rfl, b1⟩
    · clear hs
      go_wp2
      go_ret
      exact ⟨rfl, b1⟩

theorem u16_of_wf {x : Int} (h : (Lit.int .u16 x).wf = true) : ∃ m : Nat, x = m ∧ m < 65536 := by
  simp [Lit.wf, IntKind.min, IntKind.max, IntKind.signed, IntKind.bits] at h
  exact ⟨x.toNat, by omega, by omega⟩

set_option maxRecDepth 100000 in
theorem sumBursts_lifted (os : Os) (started : os.Started) (H : Type) (enc : TypeId × Value → H) :
    ReturnsInHanded {} Try.checked os 8 .any (Rows.sumBurstsSpec.pre6 enc Try.prog Try.f8 Rows.sumBurstsRow.domain false) (Rows.sumBurstsSpec.post enc Try.prog Try.f8 false true false false) := by
  refine returnsInHanded_of_change (C := Try.checked) own started (by kernel_rfl) Try.func8
    (ChangeSpec.witness6 (enc := enc) (C := Try.checked) false ⟨#[], #[.slice none 0 0, .int .u16 0, .int .u32 0], []⟩ 8 (by kernel_rfl) (by kernel_rfl) (by kernel_rfl) (by kernel_rfl)) ?_
  intro W base args ds gs before hval0 hW hcnd _
  have hval : ∀ (j : Nat) t v, Try.f8.params[j]? = some t → args[j]? = some v → Value.okWide Try.prog W .any base t v := hval0
  have hW' := hW
  obtain ⟨p, q, hA0, hV, rfl, hfz, hnd⟩ := hW
  have hA : DataW.TrodAll enc Try.prog W 0 (fun _ => true) true Try.f8.params.toList args.toList ds p := hA0
  rw [Try.params8] at hA hval
  obtain ⟨v0, vs0, d0, ds0, p0, q0, hargs, rfl, rfl, h0, r0⟩ := trodAll_cons hA
  obtain ⟨v1, vs1, d1, ds1, p1, q1, rfl, rfl, rfl, h1, r1⟩ := trodAll_cons r0
  obtain ⟨v2, vs2, d2, ds2, p2, q2, rfl, rfl, rfl, h2, r2⟩ := trodAll_cons r1
  obtain ⟨rfl, rfl, rfl⟩ := trodAll_nil r2
  obtain rfl : args = #[v0, v1, v2] := by cases args; simp_all
  obtain ⟨rfl, rfl⟩ := trodVars_none hV
  obtain ⟨a0, len0, cap0, rfl⟩ := okWide_slice Try.underlying23 (hval 0 23 v0 rfl rfl)
  have k0 := h0
  have lt0 : ∀ x ∈ p0, x.block < W.heap.size := by obtain ⟨m, hm⟩ := k0; exact DataW.trod_lt m _ _ _ hm
  obtain ⟨l0, rfl, hB0, hlc0, hm0, hnil0, hd0⟩ := open_bytes h0
  obtain ⟨a1, rfl, rfl, rfl, w1⟩ := open_int Try.underlying37 (hval 1 37 v1 rfl rfl) h1
  obtain ⟨a2, rfl, rfl, rfl, w2⟩ := open_int Try.underlying22 (hval 2 22 v2 rfl rfl) h2
  clear hA0 hval0
  obtain ⟨pp, rfl, q1⟩ := u16_of_wf w1
  obtain ⟨m0, rfl, q2⟩ := u32_of_wf w2
  refine (sumBursts_any a0 cap0 l0 pp m0 q1 q2 W hB0 hnil0 (by omega)).mono fun e W' ⟨he, bel⟩ => ?_
  subst he
  exact ⟨_, rfl, _, _, _, [], _, [], hW', trodAll_mk1 (shut_bool Try.underlying4 _), (trodAll_cons_mk (Below.trod laidOut (by kernel_rfl) (of_decide_eq_true (by kernel_rfl)) k0 bel lt0) (trodAll_cons_mk (shut_int Try.underlying37 w1) (trodAll_cons_mk (shut_int Try.underlying22 w2) trodAll_mk0))), rfl, bel.frame _, fun h => by cases h⟩

theorem sumBursts_holds : Rows.SumBurstsSaid :=
  OpenClaim.holds_of_wide 8 Try.f8 rfl rfl rfl rfl rfl rfl rfl ⟨rfl, rfl, rfl, rfl, rfl⟩ rfl rfl rfl rfl rfl (by kernel_rfl) Try.func8 (by kernel_rfl)
    (of_decide_eq_true (by kernel_rfl)) (by unfold Func.isWrapper; first | (rw [if_pos (by decide +kernel)]; kernel_rfl) | (rw [if_neg (by decide +kernel)]; exact ⟨rfl, rfl⟩))
    (fun os started H enc _ => sumBursts_lifted os started H enc)
#print axioms sumBursts_holds
end Go.Proofs.Ytfojmpcdgkolhaa
