/- CnC: out of FrC. -/
import Derived.Test.YtgmmgklcndnehaaDoorCnB
import Derived.Test.YtgmmgklcndnehaaDoorGzAD
set_option linter.unusedVariables false
set_option maxRecDepth 4000
set_option maxRecDepth 4000
namespace Go.Proofs.YtgmmgklcndnehaaDoor
open Go.RowKit

theorem step_bits (y : Nat) (h : y < 4294967296) : bits BinOp.xor IntKind.u32 ((y : Int) / 2) ((y : Int) % 2 * 2197175160) = (step y : Nat) := by
  have e := u32_xor_nat (y / 2) (y % 2 * 2197175160) (by omega) (by omega)
  rw [step, ← e]
  congr 1
  all_goals omega

theorem eight_any (x : Int) (m : Nat) (e : x = m) (h : m < 4294967296) (w : World) :
    Calls Tryd.prog 69 #[.int .u32 x] w fun e w' => e = .returned (.int .u32 (steps 8 m : Nat)) ∧ w = w' := by
  subst e
  go_enter Tryd.func69, Tryd.ntmps69
  go_wp2
  go_loop [0, 4] (fun n i => ∃ k : Nat, k ≤ 8 ∧ i = .int .i64 k ∧ n = .int .u32 (steps k m : Nat)) (fun _ i => 8 - (intOf i).toNat)
  case atStart => exact ⟨0, Nat.zero_le _, rfl, rfl⟩
  case round =>
    obtain ⟨k, hk, rfl, rfl⟩ := hrel
    have hlt := steps_lt k m h
    by_cases h8 : k < 8
    · go_wp2
      go_round
      case rel => exact ⟨k + 1, by omega, by go_num, by rw [step_bits _ hlt, steps_one]⟩
      case measure => simp [intOf]; omega
    · obtain rfl : k = 8 := by omega
      go_wp2
      go_ret
      exact ⟨rfl, rfl⟩

theorem rstep_any (x : Int) (m : Nat) (e : x = m) (h : m < 4294967296) (w : World) :
    Calls Tryd.prog 66 #[.int .u32 x] w fun e w' => e = .returned (.int .u32 (step m : Nat)) ∧ w = w' := by
  subst e
  have hb := step_bits m h
  have H : Hid (bits BinOp.xor IntKind.u32 ((m : Int) / 2) ((m : Int) % 2 * 2197175160) = (step m : Nat)) := hb
  clear hb
  rcases Nat.mod_two_eq_zero_or_one m with ho | ho
  · go_enter Tryd.func66, Tryd.ntmps66
    go_wp2
    go_ret
    refine ⟨ret_int ?_, rfl⟩
    unfold step
    rw [ho]
    simp
  · go_enter Tryd.func66, Tryd.ntmps66
    go_wp2
    go_ret
    refine ⟨ret_int ?_, rfl⟩
    have := H.out
    rw [show (m : Int) % 2 * 2197175160 = 2197175160 from by omega] at this
    rw [← this]

theorem not_bits (y : Nat) (h : y < 4294967296) : bits BinOp.xor IntKind.u32 IntKind.u32.max (y : Int) = (y ^^^ 4294967295 : Nat) := by
  have e := u32_xor_nat 4294967295 y (by decide) h
  rw [Nat.xor_comm, ← e]
  rfl

theorem byte_bits (y : Nat) (c : Int) (h : y < 4294967296) (h0 : 0 ≤ c) (h1 : c ≤ 255) : bits BinOp.xor IntKind.u32 (y : Int) c = (y ^^^ c.toNat : Nat) := by
  have e := u32_xor y c (by omega) (by omega) h0 (by omega)
  simpa using e

theorem ones_bits (y : Nat) (h : y < 4294967296) : bits BinOp.xor IntKind.u32 (y : Int) 4294967295 = (y ^^^ 4294967295 : Nat) :=
  u32_xor_nat y 4294967295 h (by decide)

theorem moreF_snoc (l : List Int) (x k : Nat) (h : k < l.length) : moreF x (l.take (k + 1)) = steps 8 (moreF x (l.take k) ^^^ l[k].toNat) := by
  rw [List.take_succ_eq_append_getElem h, moreF_append]
  rfl

theorem more_any (s : Int) (m : Nat) (a : Option Addr) (cap : Nat) (l : List Int) (w : World) (es : s = m) (hs : m < 4294967296) (h : IsB w a l) (hm : l.length ≤ maxLen) :
    Calls Tryd.prog 65 #[.int .u32 s, .slice a l.length cap] w fun e w' => e = .returned (.int .u32 (moreL m l : Nat)) ∧ w = w' := by
  subst es
  obtain ⟨hb, hl⟩ := h
  have hx : m ^^^ 4294967295 < 4294967296 := xor_lt hs (by decide)
  have hfin := fun k => moreF_lt (l.take k) _ (fun c hc => hb c (List.mem_of_mem_take hc)) hx
  unfold maxLen at hm
  go_enter Tryd.func65, Tryd.ntmps65
  go_wp2
  go_loop [5, 12] (fun n i => ∃ k : Nat, k ≤ l.length ∧ i = .int .i64 k ∧ n = .int .u32 (moreF (m ^^^ 4294967295) (l.take k) : Nat)) (fun _ i => l.length - (intOf i).toNat)
  case atStart => exact ⟨0, Nat.zero_le _, rfl, by rw [not_bits m hs]; rfl⟩
  case round =>
    obtain ⟨k, hk, rfl, rfl⟩ := hrel
    have hlt := hfin k
    by_cases hkl : k < l.length
    · obtain rfl | ⟨b, off, rfl, hsz, hc⟩ := hl
      · exact absurd hkl (by simp)
      have hcell := hc k hkl
      have hbk := hb l[k] (List.getElem_mem hkl)
      go_wp2_with fail
      refine (eight_any _ (moreF (m ^^^ 4294967295) (l.take k) ^^^ l[k].toNat) ?_ (xor_lt hlt (by omega)) _).mono ?_
      · exact byte_bits _ _ hlt hbk.1 hbk.2
      · rintro e w1 ⟨rfl, rfl⟩
        go_wp2
        go_round
        case rel => exact ⟨k + 1, by omega, by go_num, by rw [moreF_snoc l _ k hkl]⟩
        case measure => simp [intOf]; omega
    · obtain rfl : k = l.length := by omega
      go_wp2
      go_ret
      refine ⟨ret_int ?_, rfl⟩
      rw [List.take_length] at hlt
      rw [not_bits _ hlt]
      rfl

theorem sum_any (a : Option Addr) (cap : Nat) (l : List Int) (w : World) (h : IsB w a l) (hm : l.length ≤ maxLen) :
    Calls Tryd.prog 52 #[.slice a l.length cap] w fun e w' => e = .returned (.int .u32 (moreL 0 l : Nat)) ∧ w = w' := by
  go_enter Tryd.func52, Tryd.ntmps52
  go_wp2_with (go_at_call 65; refine (more_any 0 0 a cap l _ rfl (by decide) h hm).mono ?_; rintro e w' ⟨rfl, rfl⟩)
  go_ret
  exact ⟨rfl, rfl⟩

theorem rmore_any (s : Int) (m : Nat) (a : Option Addr) (cap : Nat) (l : List Int) (w : World) (es : s = m) (hs : m < 4294967296) (h : IsB w a l) (hm : l.length ≤ maxLen) :
    Calls Tryd.prog 54 #[.int .u32 s, .slice a l.length cap] w fun e w' => e = .returned (.int .u32 (moreL m l : Nat)) ∧ w = w' := by
  subst es
  obtain ⟨hb, hl⟩ := h
  have hx : m ^^^ 4294967295 < 4294967296 := xor_lt hs (by decide)
  have hfin := fun k => moreF_lt (l.take k) _ (fun c hc => hb c (List.mem_of_mem_take hc)) hx
  unfold maxLen at hm
  go_enter Tryd.func54, Tryd.ntmps54
  go_wp2
  go_loop [5, 12] (fun n i => ∃ k : Nat, k ≤ l.length ∧ i = .int .i64 k ∧ n = .int .u32 (moreF (m ^^^ 4294967295) (l.take k) : Nat)) (fun _ i => l.length - (intOf i).toNat)
  case atStart => exact ⟨0, Nat.zero_le _, rfl, by rw [ones_bits m hs]; rfl⟩
  case round =>
    obtain ⟨k, hk, rfl, rfl⟩ := hrel
    have hlt := hfin k
    by_cases hkl : k < l.length
    · obtain rfl | ⟨b, off, rfl, hsz, hc⟩ := hl
      · exact absurd hkl (by simp)
      have hcell := hc k hkl
      have hbk := hb l[k] (List.getElem_mem hkl)
      have hz : moreF (m ^^^ 4294967295) (l.take k) ^^^ l[k].toNat < 4294967296 := xor_lt hlt (by omega)
      go_wp2
      go_loop [5, 7] (fun n i => ∃ j : Nat, j ≤ 8 ∧ i = .int .i64 j ∧ n = .int .u32 (steps j (moreF (m ^^^ 4294967295) (l.take k) ^^^ l[k].toNat) : Nat)) (fun _ i => 8 - (intOf i).toNat)
      case atStart => exact ⟨0, Nat.zero_le _, rfl, by rw [byte_bits _ _ hlt hbk.1 hbk.2]; rfl⟩
      case round =>
        obtain ⟨j, hj, rfl, rfl⟩ := hrel
        have hjl := steps_lt j _ hz
        by_cases hj8 : j < 8
        · go_wp2_with fail
          refine (rstep_any _ _ rfl hjl _).mono ?_
          rintro e w1 ⟨rfl, rfl⟩
          go_wp2
          go_round
          case rel => exact ⟨j + 1, by omega, by go_num, by rw [steps_one]⟩
          case measure => simp [intOf]; omega
        · obtain rfl : j = 8 := by omega
          go_wp2
          go_round
          case rel => exact ⟨k + 1, by omega, by go_num, by rw [moreF_snoc l _ k hkl]⟩
          case measure => simp [intOf]; omega
    · obtain rfl : k = l.length := by omega
      go_wp2
      go_ret
      refine ⟨ret_int ?_, rfl⟩
      rw [List.take_length] at hlt
      rw [ones_bits _ hlt]
      rfl

theorem rsum_any (a : Option Addr) (cap : Nat) (l : List Int) (w : World) (h : IsB w a l) (hm : l.length ≤ maxLen) :
    Calls Tryd.prog 34 #[.slice a l.length cap] w fun e w' => e = .returned (.int .u32 (moreL 0 l : Nat)) ∧ w = w' := by
  go_enter Tryd.func34, Tryd.ntmps34
  go_wp2_with (go_at_call 54; refine (rmore_any 0 0 a cap l _ rfl (by decide) h hm).mono ?_; rintro e w' ⟨rfl, rfl⟩)
  go_ret
  exact ⟨rfl, rfl⟩

/-- Sum, its length and what it answers told apart. -/
theorem sum_of (a : Option Addr) (cap n : Nat) (l : List Int) (w : World) (hn : n = l.length) (h : IsB w a l) (hm : l.length ≤ maxLen) :
    Calls Tryd.prog 52 #[.slice a n cap] w fun e w' => e = .returned (.int .u32 (sumI l)) ∧ w = w' := by
  subst hn; exact sum_any a cap l w h hm

theorem rsum_of (a : Option Addr) (cap n : Nat) (l : List Int) (w : World) (hn : n = l.length) (h : IsB w a l) (hm : l.length ≤ maxLen) :
    Calls Tryd.prog 34 #[.slice a n cap] w fun e w' => e = .returned (.int .u32 (sumI l)) ∧ w = w' := by
  subst hn; exact rsum_any a cap l w h hm
end Go.Proofs.YtgmmgklcndnehaaDoor

/- CnD: out of ArC. -/
set_option linter.unusedVariables false
set_option maxRecDepth 4000
set_option maxRecDepth 4000
namespace Go.Proofs.YtgmmgklcndnehaaDoor
open Go.RowKit

theorem width_any (n : Int) (w : World) :
    Calls Tryd.prog 53 #[.int .i64 n] w fun e w' => e = .returned (.int .i64 (clampW n)) ∧ w = w' := by
  go_enter Tryd.func53, Tryd.ntmps53
  go_wp2
  all_goals (go_ret; refine ⟨congrArg Ending.returned (congrArg (Value.int IntKind.i64) ?_), rfl⟩; unfold clampW; split <;> (try split) <;> omega)

def lenOf : Value → Nat
  | .slice _ k _ => k
  | _ => 0

/-- How far the bytes have come. -/
def PutAt (n : Int) (K B : Nat) (w wr : World) (a : Option Addr) (cap : Nat) (L : List Int) (m : Int) : Prop :=
  L.length ≤ K ∧ putL K n = L ++ putL (K - L.length) m ∧ 0 ≤ m ∧ m ≤ 18446744073709551615 ∧ OwnsB wr B a L cap ∧ Below B w wr

set_option maxHeartbeats 1000000 in
theorem rput_is (n width : Int) (K : Nat) (hK : clampW width = K) (hK8 : K ≤ 8) (h0 : 0 ≤ n) (h1 : n ≤ 18446744073709551615) (w : World) :
    Calls Tryd.prog 33 #[.int .u64 n, .int .i64 width] w fun e w' => ∃ a cap, e = .returned (.slice a K cap) ∧ IsB w' a (putL K n) ∧ (∀ ad, a = some ad → w.heap.size ≤ ad.block) ∧ Below w.heap.size w w' := by
  obtain ⟨i0, hi, hz0, hz1, hz2⟩ := info_parts Tryd.info5
  have HK : Hid (clampW width = K) := hK
  clear hK
  go_enter Tryd.func33, Tryd.ntmps33
  go_wp2
  go_loopw [0, 5] (fun t v wr => ∃ (a : Option Addr) (cap : Nat) (L : List Int) (m : Int), t = .int .u64 m ∧ v = .slice a L.length cap ∧ PutAt n K w.heap.size w wr a cap L m) (fun _ v _ => 8 - lenOf v)
  case atStart => exact ⟨none, 0, [], n, rfl, rfl, Nat.zero_le _, rfl, h0, h1, World.ownsRow_nil _ _ _ _, Below.refl _ _⟩
  case round =>
    obtain ⟨a, cap, L, m, rfl, rfl, hL, hx, m0, m1, hown, hnx⟩ := hrel
    have HX : Hid (putL K n = L ++ putL (K - L.length) m) := hx
    clear hx
    by_cases hlt : L.length < K
    · go_wp2_with (first
        | (go_at_call 53; refine (width_any width _).mono ?_; rintro e w' ⟨rfl, rfl⟩; rw [HK.out])
        | (at_builtin; refine wpList_append_own _ rfl (.tmp 11) (.tmp 15) 22 rfl w.heap.size 5 i0 (.int .u8 0) 1 1 Tryd.underlying22 hi hz0 hz1 hz2 rfl (by decide) (.slice a L.length cap) L.length _ rfl (World.ownsRow.alloc hown _) ⟨wr.heap.size, 0, none⟩ 1 1 [.int .u8 (m % 256)] rfl rfl (by intro t u ht; match t, ht with | 0, ht => simp at ht; subst ht; simp [Addr.add]) (by intro u hu; simp at hu; subst hu; rfl) (by unfold maxLen; omega) (by omega) (by have := hnx.size; simp; omega) ?_; intro v1 w1 hown1 hgrow1 hnil1))
      obtain ⟨a1, cap1, rfl⟩ := owns_form hown1
      have hp : putL (K - L.length) m = m % 256 :: putL (K - (L.length + 1)) (m / 256) := by
        rw [show K - L.length = (K - (L.length + 1)) + 1 from by omega, putL]
      have R : PutAt n K w.heap.size w w1 a1 cap1 (L ++ [m % 256]) (m / 256) :=
        ⟨by simp; omega, by rw [HX.out, hp]; simp, by omega, by omega, by simpa [OwnsB] using hown1, (hnx.alloc hnx.size _).grown hgrow1 (by simp; have := hnx.size; omega) (own_ge hown)⟩
      go_roundw
      case rel => exact ⟨a1, cap1, L ++ [m % 256], m / 256, rfl, by simp, R⟩
      case measure => simp [lenOf]; omega
    · have hx : putL K n = L := by rw [HX.out, show K - L.length = 0 from by omega]; simp [putL]
      have hlen : L.length = K := by omega
      have HQ : Hid (putL K n = L) := hx
      clear hx
      go_wp2_with (go_at_call 53; refine (width_any width _).mono ?_; rintro e w' ⟨rfl, rfl⟩; rw [HK.out])
      go_ret
      refine ⟨a, cap, rfl, ?_, (fun ad e => by cases e; exact own_ge hown _ rfl), hnx⟩
      rw [HQ.out]
      exact ownsB_isB (by rw [← HQ.out]; exact putL_byte K n) hown

end Go.Proofs.YtgmmgklcndnehaaDoor

/- What Image answers. -/
namespace Go.Proofs.YtgmmgklcndnehaaDoor
open Go.RowKit Go.Maps
set_option linter.unusedVariables false
set_option maxRecDepth 4000

theorem info5 : (Tryd.prog.info? 5).map (fun i => (i.zero, i.size, i.bytes)) = some (some (.int .u8 0), 1, 1) := by kernel_rfl

theorem make_row (c : Nat) (hc : c ≤ 1000000000000) (w : World) : (Instr.makeSlice 22 (.int .i64 (c : Int)) (.int .i64 (c : Int))).run Tryd.prog w = .ok (.slice (some ⟨w.heap.size, 0, none⟩) c c) (w.alloc (.cells (madeCells #[.int .u8 0] c) 5)) :=
  run_make_row' (P := Tryd.prog) 22 5 (.int .u8 0) 1 Tryd.underlying22 info5 rfl .i64 .i64 c (by omega) (by omega) w

theorem made_zero (c : Nat) : madeCells #[.int .u8 0] c = (cellsB (List.replicate c 0)).toArray := by
  apply Array.ext_getElem?
  intro i
  by_cases h : i < c
  · rw [show (madeCells #[Value.int .u8 0] c)[i]? = some (.int .u8 0) from by simp [madeCells, h, Nat.mod_one]]
    simp [cellsB, h]
  · rw [Array.getElem?_eq_none (by simp [madeCells]; omega), Array.getElem?_eq_none (by simp [cellsB]; omega)]

end Go.Proofs.YtgmmgklcndnehaaDoor
