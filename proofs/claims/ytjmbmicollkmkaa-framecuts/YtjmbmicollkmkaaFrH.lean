/- The document's answers: what Size, Whole, Decode and Split of the reference return. -/
import Derived.Test.YtjmbmicollkmkaaFrG
namespace Go.Proofs.Ytjmbmicollkmkaa
open Go.RowKit
set_option linter.unusedVariables false

/-- How many bytes the frame at the beginning has; 0: it ends too soon. -/
def sizeL (l : List Int) : Nat := if l.length < extL l then 0 else extL l

set_option maxHeartbeats 1000000 in
theorem rsize_any (a : Option Addr) (cap n : Nat) (l : List Int) (w : World) (hn : n = l.length) (h : IsB w a l) (hm : l.length ≤ maxLen) :
    Calls Try.prog 25 #[.slice a n cap] w fun e w' => e = .returned (.int .i64 (sizeL l)) ∧ ∃ m, w' = w.drewN m := by
  subst hn
  unfold maxLen at hm
  have hge := extL_ge l
  by_cases h7 : l.length < 7
  · have HS : Hid (sizeL l = 0) := by show _ = _; rw [sizeL, if_pos (by omega)]
    clear h hge
    go_enter Try.func25, Try.ntmps25
    go_wp2
    go_ret
    exact ⟨ret_int (by rw [HS.out]; rfl), 0, rfl⟩
  · have hb : AllB l := h.1
    have b1 := hb.at 1
    have b2 := hb.at 2
    obtain ⟨_, rfl | ⟨b, off, rfl, hs, hcell⟩⟩ := h
    · simp at h7
    have c1 := hcell 1 (by omega)
    have c2 := hcell 2 (by omega)
    have hE : extL l = 7 + (l.getD 1 0 + 256 * l.getD 2 0).toNat := by rw [extL, if_neg (by omega)]
    generalize l.getD 1 0 = x at *
    generalize l.getD 2 0 = y at *
    have HE : Hid (extL l = 7 + (x + 256 * y).toNat) := hE
    have g1 : (1 : Int) < (l.length : Int) := by omega
    have g2 : (2 : Int) < (l.length : Int) := by omega
    have g3 : 1 < l.length := by omega
    have g4 : 2 < l.length := by omega
    have x1 : IntKind.i64.wrap x = x := by rw [IntKind.wrap_i64]; omega
    have x2 : IntKind.i64.wrap y = y := by rw [IntKind.wrap_i64]; omega
    by_cases hlt : (l.length : Int) < x + 256 * y + 7
    · have HS : Hid (sizeL l = 0) := by show _ = _; rw [sizeL, if_pos (by omega)]
      clear hcell hb hge hE
      go_enter Try.func25, Try.ntmps25
      go_wp2_with fail
      go_quiet (fail)
      go_wp2
      go_ret
      exact ⟨ret_int (by rw [HS.out]; rfl), _, rfl⟩
    · have HS : Hid (sizeL l = 7 + (x + 256 * y).toNat) := by show _ = _; rw [sizeL, if_neg (by omega), hE]
      clear hcell hb hge hE
      go_enter Try.func25, Try.ntmps25
      go_wp2_with fail
      go_quiet (fail)
      go_wp2
      go_ret
      exact ⟨ret_int (by rw [HS.out]; omega), _, rfl⟩

theorem lt_of_cell {w : World} {a : Addr} {v : Value} (h : w.cell? a = some v) : a.block < w.heap.size := by
  rcases Nat.lt_or_ge a.block w.heap.size with h' | h'
  · exact h'
  · simp [World.cell?, Array.getElem?_eq_none h'] at h

/-- s, so many times divided. -/
def dv : Nat → Int → Int
  | 0, s => s
  | k + 1, s => dv k s / 256

theorem dv_succ (k : Nat) (s : Int) : dv (k + 1) s = dv k (s / 256) := by
  induction k with
  | zero => rfl
  | succ k ih => rw [dv, ih, dv]

theorem dv_bd (k : Nat) (s : Int) (h0 : 0 ≤ s) (h1 : s < 4294967296) : 0 ≤ dv k s ∧ dv k s < 4294967296 := by
  induction k with
  | zero => exact ⟨h0, h1⟩
  | succ k ih => rw [dv]; omega

theorem putL_at : ∀ (m k : Nat) (s : Int), k < m → (putL m s).getD k 0 = dv k s % 256
  | m + 1, 0, s, _ => by simp [putL, dv]
  | m + 1, k + 1, s, h => by
    rw [putL, dv_succ, ← putL_at m k (s / 256) (by omega)]
    simp [List.getD]

theorem take_next {a b : List Int} {k : Nat} (ha : k < a.length) (hb : k < b.length) (h : a.take k = b.take k) (e : a.getD k 0 = b.getD k 0) : a.take (k + 1) = b.take (k + 1) := by
  rw [List.take_succ_eq_append_getElem ha, List.take_succ_eq_append_getElem hb, h]
  simp [List.getD, ha, hb] at e
  rw [e]

/-- What is wrong with bytes that are just a frame's. -/
def wholeE (l : List Int) : Int := if getL (l.drop (l.length - 4)) ≠ sumI (l.take (l.length - 4)) then 5 else if l.getD 0 0 = 0 then 4 else 0
def wholeB (l : List Int) : List Int := if wholeE l = 0 then (l.take (l.length - 4)).drop 3 else []
def wholeK (l : List Int) : Int := if wholeE l = 0 then l.getD 0 0 else 0

/-- Appending to a new row of none. -/
theorem app_run (w : World) (ad : Addr) (cx n : Nat) (l : List Int) (hn : n = l.length) (hB : IsB w (some ad) l) (hlen : l.length ≤ 140737488355328) :
    ∃ a' cap' w', (Builtin.append_ #[22, 22] 22 #[.slice (some ⟨w.heap.size, 0, none⟩) 0 0, .slice (some ad) n cx]).run Try.prog (w.alloc (.cells #[] 5)) = .ok (.slice a' n cap') w' ∧ OwnsB w' w.heap.size a' l cap' ∧ Below w.heap.size w w' := by
  subst hn
  obtain ⟨i0, hi, hz0, hz1, hz2⟩ := info_parts Try.info5
  have hB' := hB.keep ((Below.refl _ w).alloc (Nat.le_refl _) (.cells #[] 5))
  obtain ⟨v', w', h1, h2, h3, _⟩ := run_append_own (P := Try.prog) (w.alloc (.cells #[] 5)) w.heap.size 22 22 5 i0 (.int .u8 0) 1 1 Try.underlying22 hi hz0 hz1 hz2 rfl (by decide) _ 0 [] (ownsB_made w) ad l.length cx (l.map (Value.int .u8)) (by simp) (by
      intro j u hj
      have hjn : j < l.length := by
        have := (List.getElem?_eq_some_iff.1 hj).1
        simpa using this
      obtain ⟨_, rfl | ⟨b, off, e, _, hc⟩⟩ := hB'
      · simp at hjn
      · cases e
        rw [addr_add, hc j hjn]
        have e : (l.map (Value.int .u8))[j]? = some (Value.int .u8 (l.getD j 0)) := by simp [List.getD, List.getElem?_eq_getElem hjn]
        rw [e] at hj
        exact hj) (by intro u hu; obtain ⟨x, _, rfl⟩ := List.mem_map.1 hu; rfl) (by unfold maxLen; omega) (by omega) (by simp)
  obtain ⟨a', cap', rfl⟩ := owns_form h2
  rw [Nat.zero_add] at h1 h2
  refine ⟨a', cap', w', h1, by simpa [OwnsB] using h2, ?_⟩
  exact ((Below.refl _ w).alloc (Nat.le_refl _) _).grown h3 (by simp) (by intro k hk; simp [Value.ownBlock] at hk; omega)

/-- An append whose run is known, in a region that draws. -/
theorem step_run {ops : Array Oper} {o : Oper} {a : Act} {K : Act → World → Prop} {Q : Exit → Act → World → Prop} {E : Prop} {w : World} (hgd : o.guard = none) (s x : Operand) (t : TypeId)
    (ho : o.op = .call { callee := .builtin .append, args := #[s, x], argTypes := #[t, t] }) (v1 v2 : Value) (hs : a.eval s = v1) (hx : a.eval x = v2) (v' : Value) (w' : World)
    (hr : (Builtin.append_ #[t, t] o.type #[v1, v2]).run Try.prog w = .ok v' w') (h : K (a.put o.dst v') w') :
    if Region.wanted o (yielded ops a.tmps) = true then Oper.wp Try.prog o a w K Q else E := by
  have hw : Region.wanted o (yielded ops a.tmps) = true := by simp [Region.wanted, hgd]
  rw [if_pos hw]
  unfold Oper.wp execOp
  simp only [ho, resolve, invoke, builtin, Sem.run_bind, Sem.run_pure, Result.andThen_ok, List.map_toArray, List.map_cons, List.map_nil, hs, hx, hr]
  exact h

set_option maxHeartbeats 2000000 in
theorem rwhole_any (b off : Nat) (cap n : Nat) (l : List Int) (w : World) (hn : n = l.length) (h : IsB w (some ⟨b, off, none⟩) l) (hc : l.length ≤ cap) (hm : cap ≤ maxLen) (h7 : 7 ≤ l.length) (hbig : l.length ≤ 140737488355328) :
    Calls Try.prog 26 #[.slice (some ⟨b, off, none⟩) n cap] w fun e w' => ∃ a' cap', e = .returned (.tuple #[.int .i64 (wholeK l), .slice a' (wholeB l).length cap', .int .i64 (wholeE l)]) ∧ OwnsB w' w.heap.size a' (wholeB l) cap' ∧ Below w.heap.size w w' := by
  have H : Hid (IsB w (some ⟨b, off, none⟩) l) := h
  have hb : AllB l := h.1
  obtain ⟨N, hN⟩ : ∃ N, l.length = N + 4 := ⟨l.length - 4, by omega⟩
  have EK : Hid (wholeK l = if wholeE l = 0 then l.getD 0 0 else 0) := rfl
  have EB : Hid (wholeB l = if wholeE l = 0 then (l.take N).drop 3 else []) := by show _ = _; rw [wholeB, hN, Nat.add_sub_cancel]
  have hW : wholeE l = if getL (l.drop N) ≠ sumI (l.take N) then 5 else if l.getD 0 0 = 0 then 4 else 0 := by rw [wholeE, hN, Nat.add_sub_cancel]
  rw [hN] at hn hc h7
  subst hn
  have sb := sumI_bd (hb.take N)
  have t4 : (l.drop N).length = 4 := by rw [List.length_drop]; omega
  have iff4 := four_iff (s := sumI (l.take N)) (hb.drop N) t4 sb.1 sb.2
  have I2 : Hid (IsB w (some ⟨b, off, none⟩) (l.take N)) := IsB.part H.out 0 N
  have L2 : Hid (N = (l.take N).length) := by show N = _; rw [List.length_take]; omega
  have IT : IsB w (some ⟨b, off + N, none⟩) (l.drop N) := by
    have := IsB.part H.out N l.length
    rwa [List.take_of_length_le (by rw [List.length_drop]; omega)] at this
  have cT : ∀ k, k < 4 → w.cell? ⟨b, off + (N + k), none⟩ = some (.int .u8 ((l.drop N).getD k 0)) := fun k hk => by
    rw [← Nat.add_assoc]; exact IT.at k (by rw [t4]; exact hk)
  have hc0 := h.at 0 (by omega)
  rw [Nat.add_zero] at hc0
  have hyb := hb.at 0
  have HT := hb.drop N
  obtain ⟨y, hy⟩ : ∃ y, l.getD 0 0 = y := ⟨_, rfl⟩
  obtain ⟨s, hs⟩ : ∃ s, sumI (l.take N) = s := ⟨_, rfl⟩
  obtain ⟨T, hT⟩ : ∃ T, l.drop N = T := ⟨_, rfl⟩
  have ES : Hid (sumI (l.take N) = s) := hs
  rw [hy] at hc0 hyb hW
  rw [hs] at sb iff4 hW
  rw [hT] at t4 iff4 hW cT HT
  have L3m : (l.take N).length ≤ maxLen := by rw [List.length_take]; unfold maxLen; omega
  have CT : Hid (∀ k, k < 4 → w.cell? ⟨b, off + (N + k), none⟩ = some (.int .u8 (T.getD k 0))) := cT
  have IF : Hid (getL T = s ↔ T = putL 4 s) := iff4
  have HW : Hid (wholeE l = if getL T ≠ s then 5 else if y = 0 then 4 else 0) := hW
  have I3 : Hid (IsB w (some ⟨b, off + 3, none⟩) ((l.drop 3).take (N - 3))) := IsB.part H.out 3 (N - 3)
  have E3 : Hid ((l.take N).drop 3 = (l.drop 3).take (N - 3)) := by show _ = _; rw [List.drop_take]
  have L3 : Hid (N - 3 = ((l.drop 3).take (N - 3)).length) := by show _ = _; rw [List.length_take, List.length_drop]; omega
  have EY : Hid (l.getD 0 0 = y) := hy
  have T4 : Hid (T.length = 4) := t4
  clear h hb hW iff4 IT cT hy hs hT
  unfold maxLen at hm
  obtain ⟨e0, hE0⟩ : ∃ e0, wholeE l = e0 := ⟨_, rfl⟩
  have EE : Hid (wholeE l = e0) := hE0
  rw [hE0]
  clear hE0
  go_enter Try.func26, Try.ntmps26
  go_wp2_with (go_at_call 22; refine (rsum_of _ _ _ (l.take N) _ L2.out I2.out L3m).mono ?_; rw [ES.out]; rintro e w' ⟨rfl, rfl⟩)
  go_loop [6, 7] (fun sv kv => ∃ k : Nat, k ≤ 4 ∧ kv = .int .i64 k ∧ sv = .int .u32 (dv k s) ∧ T.take k = (putL 4 s).take k) (fun _ kv => 4 - (intOf kv).toNat)
  case atStart => exact ⟨0, by omega, rfl, rfl, rfl⟩
  case round =>
    obtain ⟨k, hk, rfl, rfl, htk⟩ := hrel
    have HTK : Hid (T.take k = (putL 4 s).take k) := htk
    have db := dv_bd k s sb.1 sb.2
    clear htk
    by_cases hk4 : k < 4
    · have hcell := CT.out k hk4
      have hxb := HT.at k
      have EP : Hid ((putL 4 s).getD k 0 = dv k s % 256) := putL_at 4 k s hk4
      obtain ⟨x, hx⟩ : ∃ x, T.getD k 0 = x := ⟨_, rfl⟩
      have EX : Hid (T.getD k 0 = x) := hx
      rw [hx] at hcell hxb
      clear hx
      by_cases hxe : x = dv k s % 256
      · have NX : Hid (T.take (k + 1) = (putL 4 s).take (k + 1)) := take_next (by rw [T4.out]; omega) (by rw [putL_len]; omega) HTK.out (by rw [EX.out, EP.out, hxe])
        go_wp2
        go_round
        case rel => exact ⟨k + 1, by omega, by go_num, by rw [dv], NX.out⟩
        case measure => simp [intOf]; omega
      · have NE : wholeE l = 5 := by
          rw [HW.out, if_pos]
          intro hg
          have ht := IF.out.1 hg
          apply hxe
          rw [← EX.out, ← EP.out, ht]
        obtain rfl : e0 = 5 := EE.out.symm.trans NE
        have E1 : Hid (wholeK l = 0) := by show _ = _; rw [EK.out, NE]; rfl
        have E2 : Hid (wholeB l = []) := by show _ = _; rw [EB.out, NE]; rfl
        clear NE
        go_wp2
        refine bodyPost_ret (v := .tuple #[.int .i64 0, .slice none 0 0, .int .i64 5]) (by simp [results, Try.results26, go_sem]) rfl ?_
        rw [E1.out, E2.out]
        exact ⟨none, 0, rfl, owns_none _ _, Below.refl _ _⟩
    · obtain rfl : k = 4 := by omega
      have ht : T = putL 4 s := by
        have := HTK.out
        rwa [List.take_of_length_le (by rw [T4.out]; omega), List.take_of_length_le (by rw [putL_len]; omega)] at this
      have hg := IF.out.2 ht
      have HW2 : wholeE l = if y = 0 then 4 else 0 := by rw [HW.out, if_neg (by simpa using hg)]
      clear ht hg
      by_cases hy0 : y = 0
      · rw [if_pos hy0] at HW2
        obtain rfl : e0 = 4 := EE.out.symm.trans HW2
        have E1 : Hid (wholeK l = 0) := by show _ = _; rw [EK.out, HW2]; rfl
        have E2 : Hid (wholeB l = []) := by show _ = _; rw [EB.out, HW2]; rfl
        clear HW2
        go_wp2
        refine bodyPost_ret (v := .tuple #[.int .i64 0, .slice none 0 0, .int .i64 4]) (by simp [results, Try.results26, go_sem]) rfl ?_
        rw [E1.out, E2.out]
        exact ⟨none, 0, rfl, owns_none _ _, Below.refl _ _⟩
      · rw [if_neg hy0] at HW2
        obtain rfl : e0 = 0 := EE.out.symm.trans HW2
        have E1 : Hid (wholeK l = y) := by show _ = _; rw [EK.out, HW2, if_pos rfl, EY.out]
        have E2 : Hid (wholeB l = (l.drop 3).take (N - 3)) := by show _ = _; rw [EB.out, HW2, if_pos rfl, E3.out]
        clear HW2
        obtain ⟨a3, c3, w3, hrun, o3, b3⟩ := app_run w.drew ⟨b, off + 3, none⟩ (cap - 3) (N - 3) _ L3.out I3.out (by have := L3.out; omega)
        have O3 : Hid (OwnsB w3 w.heap.size a3 ((l.drop 3).take (N - 3)) c3) := o3
        have B3 : Hid (Below w.heap.size w w3) := (below_drewN (Below.refl _ w) 1).trans b3
        have hrun' : (Builtin.append_ #[22, 22] 22 #[.slice (some ⟨w.heap.size, 0, none⟩) 0 0, .slice (some ⟨b, off + 3, none⟩) (N - 3) (cap - 3)]).run Try.prog (w.alloc (.cells #[] 5)).drew = .ok (.slice a3 (N - 3) c3) w3 := hrun
        have hx3 : w3.cell? ⟨b, off, none⟩ = some (.int .u8 y) := (B3.out.cell (p := ⟨b, off, none⟩) (lt_of_cell hc0)).trans hc0
        have hnew := World.new_ne w ⟨b, off, none⟩ hc0
        clear o3 b3 hrun
        have g1 : (0 : Int) < (N : Int) + 4 := by omega
        have g3 : (3 : Int) ≤ (N : Int) := by omega
        have g4 : (N : Int) ≤ (cap : Int) := by omega
        have g6 : IntKind.i64.wrap ((N : Int) + 4 - 4) = (N : Int) := by rw [IntKind.wrap_i64]; omega
        have g7 : 3 ≤ N := by omega
        have g8 : N ≤ cap := by omega
        have g9 : (0 : Int) ≤ (N : Int) := by omega
        have g11 : ¬ cap = 3 := by omega
        have g10 : IntKind.i64.wrap (N : Int) = (N : Int) := by rw [IntKind.wrap_i64]; omega
        have g12 : IntKind.i64.wrap y = y := by rw [IntKind.wrap_i64]; omega
        go_wp2_with fail
        go_region_held3 (fun w' => w'.cell? ⟨b, off, none⟩ = some (.int .u8 y)) (first | assumption | go_keep) (first
          | (refine step_run rfl _ _ _ rfl _ _ rfl rfl _ _ hrun' ?_))
        all_goals go_wp2
        all_goals refine bodyPost_ret (v := .tuple #[.int .i64 y, .slice a3 (N - 3) c3, .int .i64 0]) (by simp [results, Try.results26, go_sem]) rfl ?_
        all_goals rw [E1.out, E2.out, ← L3.out]
        all_goals exact ⟨a3, c3, rfl, O3.out, B3.out⟩
end Go.Proofs.Ytjmbmicollkmkaa
