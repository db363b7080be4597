/- The document's set, going on: Next, List and Bytes. -/
import Derived.Test.YtnolbcbcboeaoaaDoorSetR
namespace Go.Proofs.YtnolbcbcboeaoaaDoor
open Go.RowKit
set_option linter.unusedVariables false

set_option maxHeartbeats 1000000 in
theorem rnext_any (b g n : Nat) (f q : Nat → Bool) (fr : Int) (c : Bool) (hq : ∀ i, (f i == c) = q i) (w : World) (hR : RefAt w b g n f) (hfr : fr ≤ 9223372036854775807) :
    Calls Tryd.prog 31 #[.pointer (some ⟨b, 0, none⟩), .int .i64 fr, .bool c] w fun e w' => e = .returned (.int .i64 (nextL q n fr.toNat)) ∧ w = w' := by
  have hs := hR.ins
  have few := hR.few
  have HW : Hid (∀ j, j < n → w.cell? ⟨g, j, none⟩ = some (.bool (f j))) := hR.cell
  have HQ : Hid (∀ i, (f i == c) = q i) := hq
  obtain ⟨i0, e0⟩ : ∃ i0 : Nat, fr.toNat = i0 := ⟨_, rfl⟩
  rw [e0]
  have hb0 : i0 ≤ 9223372036854775807 := by omega
  have hcase : (0 < i0 ∧ fr = (i0 : Int)) ∨ (¬ 0 < fr ∧ i0 = 0) := by omega
  clear hR hq e0
  rcases hcase with ⟨hpos, rfl⟩ | ⟨hpos, rfl⟩
  all_goals
    go_enter Tryd.func31, Tryd.ntmps31
    go_wp2
    go_loop [7] (fun i => ∃ k : Nat, i = .int .i64 k ∧ k ≤ 9223372036854775807 ∧ Hid (nextL q n _ = nextL q n k)) (fun i => n - (intOf i).toNat)
    case atStart => exact ⟨_, rfl, hb0, rfl⟩
    case round =>
      obtain ⟨k, rfl, hk, HK⟩ := hrel
      by_cases hlt : k < n
      · have hcell := HW.out k hlt
        cases hf : (f k == c)
        · have hfc : f k = !c := by cases hh : f k <;> cases c <;> simp_all
          have hqk : q k = false := by rw [← HQ.out]; exact hf
          have SK : Hid (nextL q n _ = nextL q n (k + 1)) := HK.out.trans (nextL_step q (fun _ => hqk))
          rw [hfc] at hcell
          clear hf hfc hqk
          cases c
          all_goals
            go_wp2
            go_round
            case rel => exact ⟨k + 1, by go_num, by omega, SK⟩
            case measure => simp [intOf]; omega
        · have hfc : f k = c := by simpa using hf
          have hqk : q k = true := by rw [← HQ.out]; exact hf
          have SK : Hid (nextL q n _ = (k : Int)) := HK.out.trans (nextL_at q hlt hqk)
          rw [hfc] at hcell
          clear hf hfc hqk
          cases c
          all_goals
            go_wp2
            go_ret
            exact ⟨ret_int SK.out.symm, rfl⟩
      · have EE : Hid (nextL q n _ = -1) := HK.out.trans (nextL_stop q (by omega))
        go_wp2
        go_ret
        exact ⟨ret_int EE.out.symm, rfl⟩

set_option maxHeartbeats 1000000 in
theorem rlist_any (b g n : Nat) (f : Nat → Bool) (w : World) (hR : RefAt w b g n f) :
    Calls Tryd.prog 11 #[.pointer (some ⟨b, 0, none⟩)] w fun e w' => ∃ a cap, e = .returned (.slice a (lsL f n).length cap) ∧ Owns w' w.heap.size 3 .i64 a (lsL f n) cap ∧ Below w.heap.size w w' := by
  have few := hR.few
  have hs := hR.ins
  have HR : Hid (RefAt w b g n f) := hR
  clear hR
  go_enter Tryd.func11, Tryd.ntmps11
  go_wp2
  go_loopw [3, 10] (fun lv iv wr => ∃ (k : Nat) (a : Option Addr) (cap : Nat), k ≤ n ∧ iv = .int .i64 k ∧ lv = .slice a (lsL f k).length cap ∧ Owns wr w.heap.size 3 .i64 a (lsL f k) cap ∧ Below w.heap.size w wr) (fun _ iv _ => n - (intOf iv).toNat)
  case atStart => exact ⟨0, none, 0, Nat.zero_le _, rfl, rfl, World.ownsRow_nil _ _ _ _, Below.refl _ _⟩
  case round =>
    obtain ⟨k, a, cap, hk, rfl, rfl, ho, hb⟩ := hrel
    have HO : Hid (Owns _ w.heap.size 3 .i64 a (lsL f k) cap) := ho
    have HB : Hid (Below w.heap.size w _) := hb
    have hll : (lsL f k).length ≤ k := by rw [lsL_len]; exact cnt_le f k
    by_cases hlt : k < n
    · have hR2 := HR.out.keepAll hb
      have hs2 := hR2.ins
      have hcell := hR2.cell k hlt
      clear ho hb hR2
      cases hf : f k
      · have EL : Hid (lsL f (k + 1) = lsL f k) := by show _ = _; rw [lsL, hf]; simp
        rw [hf] at hcell
        clear hf
        go_wp2
        go_roundw
        case rel => exact ⟨k + 1, a, cap, by omega, by go_num, by rw [EL.out], by rw [EL.out]; exact HO.out, HB.out⟩
        case measure => simp [intOf]; omega
      · have EL : Hid (lsL f (k + 1) = lsL f k ++ [(k : Int)]) := by show _ = _; rw [lsL, hf]; simp
        rw [hf] at hcell
        clear hf
        go_wp2_with (at_builtin; refine wpList_one rfl _ _ 28 3 .i64 0 8 rfl Tryd.underlying28 Tryd.info3 w.heap.size ?q1 a (lsL f k) cap rfl ?q2 _ 1 (k : Int) rfl ?q3 ?q4 ?q5 ?_)
        case q1 => have := HB.out.size; simp; omega
        case q2 => exact World.ownsRow.alloc HO.out _
        case q3 => simp
        case q4 => omega
        case q5 => omega
        intro a3 c3 w3 o3 b3
        have O3 : Hid (Owns w3 w.heap.size 3 .i64 a3 (lsL f (k + 1)) c3) := by show Owns _ _ _ _ _ _ _; rw [EL.out]; exact o3
        have B3 : Hid (Below w.heap.size w w3) := (HB.out.alloc HB.out.size _).trans b3
        have hlen : (lsL f k).length + 1 = (lsL f (k + 1)).length := by rw [EL.out]; simp
        rw [hlen]
        clear o3 b3 hlen
        go_wp2
        go_roundw
        case rel => exact ⟨k + 1, a3, c3, by omega, by go_num, rfl, O3.out, B3.out⟩
        case measure => simp [intOf]; omega
    · obtain rfl : k = n := by omega
      clear ho hb
      go_wp2
      go_ret
      exact ⟨a, cap, rfl, HO.out, HB.out⟩

theorem bysL_snoc (f : Nat → Bool) (m : Nat) : bysL f (m + 1) = bysL f m ++ [((byt f m : Nat) : Int)] := by
  simp [bysL, List.range_succ]

/-- Eight bits a byte, as far as there are places. -/
theorem byt_short (f : Nat → Bool) (j t n : Nat) (h : ∀ i, f i = true → i < n) (hn : n ≤ 8 * j + t) : numOf (fun k => f (8 * j + k)) t = byt f j ∨ 8 < t := by
  by_cases h8 : 8 < t
  · exact .inr h8
  · left
    refine eq_numOf (Nat.lt_of_lt_of_le (numOf_lt _ t) (Nat.pow_le_pow_right (by decide) (by omega))) fun k hk => ?_
    rw [numOf_bit]
    by_cases hkt : k < t
    · simp [hkt]
    · have : f (8 * j + k) ≠ true := fun e => by have := h _ e; omega
      simp [hkt, this]

set_option maxHeartbeats 2000000 in
theorem rbytes_any (b g n : Nat) (f : Nat → Bool) (w : World) (hR : RefAt w b g n f) :
    Calls Tryd.prog 18 #[.pointer (some ⟨b, 0, none⟩)] w fun e w' => ∃ a cap, e = .returned (.slice a (bysL f ((n + 7) / 8)).length cap) ∧ Owns w' w.heap.size 5 .u8 a (bysL f ((n + 7) / 8)) cap ∧ Below w.heap.size w w' := by
  have few := hR.few
  have HR : Hid (RefAt w b g n f) := hR
  clear hR
  go_enter Tryd.func18, Tryd.ntmps18
  go_wp2
  go_loopw [3, 4, 5, 6, 7] (fun lv iv _ _ _ wr => ∃ (m y : Nat) (a : Option Addr) (cap : Nat), iv = .int .i64 y ∧ Hid (y = 8 * m) ∧ m ≤ (n + 7) / 8 ∧ lv = .slice a (bysL f m).length cap ∧ Owns wr w.heap.size 5 .u8 a (bysL f m) cap ∧ Below w.heap.size w wr) (fun _ iv _ _ _ _ => n - (intOf iv).toNat)
  case atStart => exact ⟨0, 0, none, 0, rfl, rfl, Nat.zero_le _, rfl, World.ownsRow_nil _ _ _ _, Below.refl _ _⟩
  case round =>
    obtain ⟨m, y, a, cap, rfl, HY, hm, rfl, ho, hb⟩ := hrel
    have HO : Hid (Owns _ w.heap.size 5 .u8 a (bysL f m) cap) := ho
    have HB : Hid (Below w.heap.size w _) := hb
    have hR2 := HR.out.keepAll hb
    have hs2 := hR2.ins
    have HC : Hid (∀ j, j < n → World.cell? _ ⟨g, j, none⟩ = some (.bool (f j))) := hR2.cell
    have hbl := bysL_len f m
    have hbb : (bysL f m).length ≤ 8192 := by omega
    have hy6 : y ≤ 65544 := by have := HY.out; omega
    clear ho hb hR2 hbl
    by_cases hlt : y < n
    · go_wp2
      go_loop [5, 6, 7] (fun cv ov kv => ∃ t c p x : Nat, cv = .int .i64 c ∧ ov = .int .i64 p ∧ kv = .int .i64 x ∧ t ≤ 8 ∧ x ≤ n ∧ Hid (x = y + t) ∧ Hid (numOf (fun k => f (y + k)) t = c) ∧ Hid (2 ^ t = p)) (fun _ _ kv => y + 8 - (intOf kv).toNat)
      case atStart => exact ⟨0, 0, 1, y, rfl, rfl, rfl, by omega, by omega, rfl, rfl, rfl⟩
      case round =>
        obtain ⟨t, c, p, x, rfl, rfl, rfl, ht, hxn, HX, HN, HP⟩ := hrel
        have hp8 : p ≤ 256 := by rw [← HP.out]; exact Nat.pow_le_pow_right (by decide) ht
        have hc8 : c < p := by rw [← HN.out, ← HP.out]; exact numOf_lt _ t
        have hx8 : x ≤ y + 8 := by have := HX.out; omega
        by_cases h1 : x < y + 8
        · by_cases h2 : x < n
          · have hcell := HC.out x h2
            have ht8 : t < 8 := by have := HX.out; omega
            have HP2 : Hid (2 ^ (t + 1) = p * 2) := by show _ = _; rw [Nat.pow_succ, HP.out]
            cases hf : f x
            · have HN2 : Hid (numOf (fun k => f (y + k)) (t + 1) = c) := by show _ = _; rw [numOf, HN.out, ← HX.out, hf]; simp
              rw [hf] at hcell
              clear hf
              go_wp2
              go_round
              case rel => exact ⟨t + 1, c, p * 2, x + 1, rfl, by go_num, by go_num, by omega, by omega, by have := HX.out; show _ = _; omega, HN2, HP2⟩
              case measure => simp [intOf]; omega
            · have HN2 : Hid (numOf (fun k => f (y + k)) (t + 1) = c + p) := by show _ = _; rw [numOf, HN.out, ← HX.out, hf, HP.out]; simp
              rw [hf] at hcell
              clear hf
              go_wp2
              go_round
              case rel => exact ⟨t + 1, c + p, p * 2, x + 1, by go_num, by go_num, by go_num, by omega, by omega, by have := HX.out; show _ = _; omega, HN2, HP2⟩
              case measure => simp [intOf]; omega
          · have HBY : Hid (c = byt f m) := by
              have e := HX.out
              have ey := HY.out
              rcases byt_short f m t n HR.out.within (by omega) with h | h
              · show c = _; rw [← h, ← HN.out, ey]
              · omega
            have hc256 : c < 256 := by omega
            go_wp2_with (at_builtin; refine wpList_one rfl _ _ 36 5 .u8 0 1 rfl Tryd.underlying36 Tryd.info5 w.heap.size ?q1 a (bysL f m) cap rfl ?q2 _ 1 (c : Int) rfl ?q3 ?q4 ?q5 ?_)
            case q1 => have := HB.out.size; simp; omega
            case q2 => exact World.ownsRow.alloc HO.out _
            first | (case q3 => simp) | skip
            case q4 => omega
            case q5 => omega
            intro a3 c3 w3 o3 b3
            have O3 : Hid (Owns w3 w.heap.size 5 .u8 a3 (bysL f (m + 1)) c3) := by show Owns _ _ _ _ _ _ _; rw [bysL_snoc, ← HBY.out]; exact o3
            have B3 : Hid (Below w.heap.size w w3) := (HB.out.alloc HB.out.size _).trans b3
            have hlen : (bysL f m).length + 1 = (bysL f (m + 1)).length := by rw [bysL_len, bysL_len]
            rw [hlen]
            clear o3 b3 hlen
            go_wp2
            go_roundw
            case rel => exact ⟨m + 1, y + 8, a3, c3, by go_num, by have := HY.out; show _ = _; omega, by have := HY.out; omega, rfl, O3.out, B3.out⟩
            case measure => simp [intOf]; omega
        · have HBY : Hid (c = byt f m) := by
              have e := HX.out
              have ey := HY.out
              have t8 : t = 8 := by omega
              show c = _
              rw [← HN.out, ey, t8]; rfl
          have hc256 : c < 256 := by omega
          go_wp2_with (at_builtin; refine wpList_one rfl _ _ 36 5 .u8 0 1 rfl Tryd.underlying36 Tryd.info5 w.heap.size ?q1 a (bysL f m) cap rfl ?q2 _ 1 (c : Int) rfl ?q3 ?q4 ?q5 ?_)
          case q1 => have := HB.out.size; simp; omega
          case q2 => exact World.ownsRow.alloc HO.out _
          first | (case q3 => simp) | skip
          case q4 => omega
          case q5 => omega
          intro a3 c3 w3 o3 b3
          have O3 : Hid (Owns w3 w.heap.size 5 .u8 a3 (bysL f (m + 1)) c3) := by show Owns _ _ _ _ _ _ _; rw [bysL_snoc, ← HBY.out]; exact o3
          have B3 : Hid (Below w.heap.size w w3) := (HB.out.alloc HB.out.size _).trans b3
          have hlen : (bysL f m).length + 1 = (bysL f (m + 1)).length := by rw [bysL_len, bysL_len]
          rw [hlen]
          clear o3 b3 hlen
          go_wp2
          go_roundw
          case rel => exact ⟨m + 1, y + 8, a3, c3, by go_num, by have := HY.out; show _ = _; omega, by have := HY.out; omega, rfl, O3.out, B3.out⟩
          case measure => simp [intOf]; omega
    · have em : m = (n + 7) / 8 := by have := HY.out; omega
      subst em
      go_wp2
      go_ret
      exact ⟨a, cap, rfl, HO.out, HB.out⟩
end Go.Proofs.YtnolbcbcboeaoaaDoor
