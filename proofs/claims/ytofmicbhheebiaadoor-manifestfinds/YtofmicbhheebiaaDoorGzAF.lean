/- CnD: out of ArC. -/
import Derived.Test.YtofmicbhheebiaaDoorCnC
import Derived.Test.YtofmicbhheebiaaDoorGzAD
set_option linter.unusedVariables false
set_option maxRecDepth 4000
set_option maxRecDepth 4000
namespace Go.Proofs.YtofmicbhheebiaaDoor
open Go.RowKit

theorem width_any (n : Int) (w : World) :
    Calls Tryd.prog 75 #[.int .i64 n] w fun e w' => e = .returned (.int .i64 (clampW n)) ∧ w = w' := by
  go_enter Tryd.func75, Tryd.ntmps75
  go_wp2
  all_goals (go_ret; refine ⟨congrArg Ending.returned (congrArg (Value.int IntKind.i64) ?_), rfl⟩; unfold clampW; split <;> (try split) <;> omega)

theorem rget_step (l : List Int) (k : Nat) (hk : k < (l.take 8).length) : getL ((l.take 8).drop (k + 1)) * 256 + (l.take 8)[k] = getL ((l.take 8).drop k) := by
  rw [List.drop_eq_getElem_cons hk, getL]
  omega

theorem rget_bd (l : List Int) (k : Nat) (hb : ∀ x ∈ l, 0 ≤ x ∧ x ≤ 255) : 0 ≤ getL ((l.take 8).drop (k + 1)) ∧ getL ((l.take 8).drop (k + 1)) ≤ 72057594037927935 := by
  have hb' : ∀ x ∈ (l.take 8).drop (k + 1), 0 ≤ x ∧ x ≤ 255 := fun x hx => hb x (List.mem_of_mem_take (List.mem_of_mem_drop hx))
  refine ⟨getL_nonneg _ hb', ?_⟩
  have h1 := getL_lt _ hb'
  have h2 : ((l.take 8).drop (k + 1)).length ≤ 7 := by rw [List.length_drop]; have := List.length_take_le 8 l; omega
  have h3 := p256_mono _ _ h2
  have h4 : (256 : Int) ^ 7 = 72057594037927936 := by decide
  omega

set_option maxHeartbeats 1000000 in
theorem rget_any (a : Option Addr) (cap : Nat) (l : List Int) (w : World) (h : IsB w a l) (hm : l.length ≤ maxLen) :
    Calls Tryd.prog 49 #[.slice a l.length cap] w fun e w' => e = .returned (.int .u64 (getL (l.take 8))) ∧ w = w' := by
  obtain ⟨hb, rfl | ⟨b, off, rfl, hsz, hc⟩⟩ := h
  · go_enter Tryd.func49, Tryd.ntmps49
    go_wp2
    refine wp_loop_rounds 1 ?_
    rw [rounds_succ]
    go_wp2
    go_ret
    exact ⟨rfl, rfl⟩
  · unfold maxLen at hm
    have h8 : (l.take 8).length ≤ 8 := List.length_take_le 8 l
    have hl8 : (l.take 8).length ≤ l.length := by rw [List.length_take]; omega
    have E8 : Hid ((l.take 8).length = min 8 l.length) := List.length_take
    go_enter Tryd.func49, Tryd.ntmps49
    go_wp2
    all_goals
      go_loop [3, 4] (fun n i => ∃ k : Nat, k ≤ (l.take 8).length ∧ i = .int .i64 ((k : Int) - 1) ∧ n = .int .u64 (getL ((l.take 8).drop k))) (fun _ i => (intOf i + 1).toNat)
      case atStart =>
        refine ⟨(l.take 8).length, Nat.le_refl _, ?_, ?_⟩
        · refine congrArg (Value.int IntKind.i64) ?_
          rw [E8.out]
          omega
        · rw [List.drop_length]; rfl
      case round =>
        obtain ⟨k, hk, rfl, rfl⟩ := hrel
        rcases k with _ | k
        · go_wp2
          go_ret
          exact ⟨rfl, rfl⟩
        · have hkl : k < (l.take 8).length := hk
          have hkl' : k < l.length := by omega
          have hst : Hid (getL ((l.take 8).drop (k + 1)) * 256 + (l.take 8)[k] = getL ((l.take 8).drop k)) := rget_step l k hkl
          obtain ⟨n0, n1⟩ := rget_bd l k hb
          have hx := hb l[k] (List.getElem_mem hkl')
          have hcell := hc k hkl'
          have ek : ((k + 1 : Nat) : Int) - 1 = (k : Int) := by omega
          rw [ek]
          generalize hN : getL ((l.take 8).drop (k + 1)) = N at *
          go_wp2
          go_round
          case rel => exact ⟨k, by omega, rfl, congrArg (Value.int IntKind.u64) (by rw [← hst.out]; simp)⟩
          case measure => simp [intOf]
def lenOf : Value → Nat
  | .slice _ k _ => k
  | _ => 0

/-- How far the bytes have come. -/
def PutAt (n : Int) (K B : Nat) (w wr : World) (a : Option Addr) (cap : Nat) (L : List Int) (m : Int) : Prop :=
  L.length ≤ K ∧ putL K n = L ++ putL (K - L.length) m ∧ 0 ≤ m ∧ m ≤ 18446744073709551615 ∧ OwnsB wr B a L cap ∧ Below B w wr

set_option maxHeartbeats 1000000 in
theorem rput_is (n width : Int) (K : Nat) (hK : clampW width = K) (hK8 : K ≤ 8) (h0 : 0 ≤ n) (h1 : n ≤ 18446744073709551615) (w : World) :
    Calls Tryd.prog 67 #[.int .u64 n, .int .i64 width] w fun e w' => ∃ a cap, e = .returned (.slice a K cap) ∧ IsB w' a (putL K n) ∧ (∀ ad, a = some ad → w.heap.size ≤ ad.block) ∧ Below w.heap.size w w' := by
  obtain ⟨i0, hi, hz0, hz1, hz2⟩ := info_parts Tryd.info5
  have HK : Hid (clampW width = K) := hK
  clear hK
  go_enter Tryd.func67, Tryd.ntmps67
  go_wp2
  go_loopw [0, 5] (fun t v wr => ∃ (a : Option Addr) (cap : Nat) (L : List Int) (m : Int), t = .int .u64 m ∧ v = .slice a L.length cap ∧ PutAt n K w.heap.size w wr a cap L m) (fun _ v _ => 8 - lenOf v)
  case atStart => exact ⟨none, 0, [], n, rfl, rfl, Nat.zero_le _, rfl, h0, h1, World.ownsRow_nil _ _ _ _, Below.refl _ _⟩
  case round =>
    obtain ⟨a, cap, L, m, rfl, rfl, hL, hx, m0, m1, hown, hnx⟩ := hrel
    have HX : Hid (putL K n = L ++ putL (K - L.length) m) := hx
    clear hx
    by_cases hlt : L.length < K
    · go_wp2_with (first
        | (go_at_call 75; refine (width_any width _).mono ?_; rintro e w' ⟨rfl, rfl⟩; rw [HK.out])
        | (at_builtin; refine wpList_append_own _ rfl (.tmp 11) (.tmp 15) 22 rfl w.heap.size 5 i0 (.int .u8 0) 1 1 Tryd.underlying22 hi hz0 hz1 hz2 rfl (by decide) (.slice a L.length cap) L.length _ rfl (World.ownsRow.alloc hown _) ⟨wr.heap.size, 0, none⟩ 1 1 [.int .u8 (m % 256)] rfl rfl (by intro t u ht; match t, ht with | 0, ht => simp at ht; subst ht; simp [Addr.add]) (by intro u hu; simp at hu; subst hu; rfl) (by unfold maxLen; omega) (by omega) (by have := hnx.size; simp; omega) ?_; intro v1 w1 hown1 hgrow1 hnil1))
      obtain ⟨a1, cap1, rfl⟩ := owns_form hown1
      have hp : putL (K - L.length) m = m % 256 :: putL (K - (L.length + 1)) (m / 256) := by
        rw [show K - L.length = (K - (L.length + 1)) + 1 from by omega, putL]
      have R : PutAt n K w.heap.size w w1 a1 cap1 (L ++ [m % 256]) (m / 256) :=
        ⟨by simp; omega, by rw [HX.out, hp]; simp, by omega, by omega, by simpa [OwnsB] using hown1, (hnx.alloc hnx.size _).grown hgrow1 (by simp; have := hnx.size; omega) (own_ge hown)⟩
      go_roundw
      case rel => exact ⟨a1, cap1, L ++ [m % 256], m / 256, rfl, by simp, R⟩
      case measure => simp [lenOf]; omega
    · have hx : putL K n = L := by rw [HX.out, show K - L.length = 0 from by omega]; simp [putL]
      have hlen : L.length = K := by omega
      have HQ : Hid (putL K n = L) := hx
      clear hx
      go_wp2_with (go_at_call 75; refine (width_any width _).mono ?_; rintro e w' ⟨rfl, rfl⟩; rw [HK.out])
      go_ret
      refine ⟨a, cap, rfl, ?_, (fun ad e => by cases e; exact own_ge hown _ rfl), hnx⟩
      rw [HQ.out]
      exact ownsB_isB (by rw [← HQ.out]; exact putL_byte K n) hown

end Go.Proofs.YtofmicbhheebiaaDoor

/- What Image answers. -/
namespace Go.Proofs.YtofmicbhheebiaaDoor
open Go.RowKit Go.Maps
set_option linter.unusedVariables false
set_option maxRecDepth 4000

theorem info5 : (Tryd.prog.info? 5).map (fun i => (i.zero, i.size, i.bytes)) = some (some (.int .u8 0), 1, 1) := by kernel_rfl

theorem make_row (c : Nat) (hc : c ≤ 1000000000000) (w : World) : (Instr.makeSlice 22 (.int .i64 (c : Int)) (.int .i64 (c : Int))).run Tryd.prog w = .ok (.slice (some ⟨w.heap.size, 0, none⟩) c c) (w.alloc (.cells (madeCells #[.int .u8 0] c) 5)) :=
  run_make_row' (P := Tryd.prog) 22 5 (.int .u8 0) 1 Tryd.underlying22 info5 rfl .i64 .i64 c (by omega) (by omega) w

theorem made_zero (c : Nat) : madeCells #[.int .u8 0] c = (cellsB (List.replicate c 0)).toArray := by
  apply Array.ext_getElem?
  intro i
  by_cases h : i < c
  · rw [show (madeCells #[Value.int .u8 0] c)[i]? = some (.int .u8 0) from by simp [madeCells, h, Nat.mod_one]]
    simp [cellsB, h]
  · rw [Array.getElem?_eq_none (by simp [madeCells]; omega), Array.getElem?_eq_none (by simp [cellsB]; omega)]

end Go.Proofs.YtofmicbhheebiaaDoor
