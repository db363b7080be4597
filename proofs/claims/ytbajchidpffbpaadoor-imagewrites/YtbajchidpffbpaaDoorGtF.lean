/- Layer 17: SetR again -/
import Derived.Test.YtbajchidpffbpaaDoorGtD
import Derived.Test.YtbajchidpffbpaaDoorGtE
import Derived.Test.YtbajchidpffbpaaDoorAuB
import Derived.Test.YtbajchidpffbpaaDoorMhA
import Derived.RegionTactic
namespace Go.Proofs.YtbajchidpffbpaaDoor
open Go.RowKit
set_option linter.unusedVariables false
set_option maxRecDepth 4000
/-- The document's set of n places in the block b, its places in the block g; f says which are in. -/
structure RefAt (w : World) (b g n : Nat) (f : Nat → Bool) : Prop where
  ins : w.cell? ⟨b, 0, none⟩ = some (.slice (some ⟨g, 0, none⟩) n n)
  cell : ∀ j, j < n → w.cell? ⟨g, j, none⟩ = some (.bool (f j))
  thawed : ∀ j, w.frozen? ⟨g, j, none⟩ = false
  few : n ≤ 65536
  within : ∀ i, f i = true → i < n
  hb : b < w.heap.size
  hg : g < w.heap.size
  apart : b ≠ g

theorem RefAt.keep {w w' : World} {b g n B : Nat} {f : Nat → Bool} (h : RefAt w b g n f) (hb : Below B w w') (h1 : b < B) (h2 : g < B) : RefAt w' b g n f where
  ins := by rw [hb.cell (p := ⟨b, 0, none⟩) h1]; exact h.ins
  cell := fun j hj => by rw [hb.cell (p := ⟨g, j, none⟩) h2]; exact h.cell j hj
  thawed := fun j => by rw [hb.frozen (p := ⟨g, j, none⟩) h2]; exact h.thawed j
  few := h.few
  within := h.within
  hb := by have := hb.size; have := h.hb; omega
  hg := by have := hb.size; have := h.hg; omega
  apart := h.apart

theorem RefAt.keepAll {w w' : World} {b g n : Nat} {f : Nat → Bool} (h : RefAt w b g n f) (hb : Below w.heap.size w w') : RefAt w' b g n f := h.keep hb h.hb h.hg

theorem RefAt.beside {w w' : World} {b g n o : Nat} {f : Nat → Bool} (h : RefAt w b g n f) (ho : Only o w w') (h1 : b ≠ o) (h2 : g ≠ o) : RefAt w' b g n f where
  ins := by rw [ho.cell (p := ⟨b, 0, none⟩) h1]; exact h.ins
  cell := fun j hj => by rw [ho.cell (p := ⟨g, j, none⟩) h2]; exact h.cell j hj
  thawed := fun j => by rw [ho.frozen (p := ⟨g, j, none⟩) h2]; exact h.thawed j
  few := h.few
  within := h.within
  hb := by have := ho.size; have := h.hb; omega
  hg := by have := ho.size; have := h.hg; omega
  apart := h.apart

theorem RefAt.congr {w : World} {b g n : Nat} {f f' : Nat → Bool} (h : RefAt w b g n f) (e : ∀ i, f i = f' i) : RefAt w b g n f' := by
  have : f = f' := funext e
  exact this ▸ h

theorem RefAt.stored {w : World} {b g n i : Nat} {f : Nat → Bool} (c : Bool) (h : RefAt w b g n f) (hi : i < n) : RefAt (w.setCell ⟨g, i, none⟩ (.bool c)) b g n (put f i c) where
  ins := by rw [(Only.set g i _ w).cell (p := ⟨b, 0, none⟩) h.apart]; exact h.ins
  cell := fun k hk => by
    by_cases e : k = i
    · subst e; rw [cell_set (h.cell k hk), put, if_pos rfl]
    · rw [cell_else e, put, if_neg e]; exact h.cell k hk
  thawed := fun k => by rw [frozen_set]; exact h.thawed k
  few := h.few
  within := put_within h.within hi
  hb := by simpa using h.hb
  hg := by simpa using h.hg
  apart := h.apart

/-- What the document's New lays into memory. -/
def rnewW (w : World) (n : Nat) : World := (w.alloc (.cells (madeCells #[.bool false] n) 4)).alloc (.cells #[.slice (some ⟨w.heap.size, 0, none⟩) n n] 97)

theorem rnewW_at (w : World) (n : Nat) (hn : n ≤ 65536) : RefAt (rnewW w n) (w.heap.size + 1) w.heap.size n (fun _ => false) where
  ins := by rw [rnewW, World.cell?_alloc_at _ _ _ _ (by simp)]; rfl
  cell := fun j hj => by
    rw [rnewW, World.cell?_alloc_past _ _ _ (by simp), World.cell?_alloc_at _ _ _ _ rfl, made_cell _ _ _ hj]
  thawed := fun j => by
    rw [rnewW, World.frozen?_alloc_past _ _ _ (by simp), World.frozen?_alloc_at _ _ _ _ rfl]
  few := hn
  within := fun i h => by cases h
  hb := by simp [rnewW]
  hg := by simp [rnewW]; omega
  apart := by omega

theorem rnewW_below (w : World) (n : Nat) : Below w.heap.size w (rnewW w n) :=
  ((Below.refl _ w).alloc (Nat.le_refl _) _).alloc (by simp) _

theorem make_bools (c : Nat) (hc : c ≤ 65536) (w : World) : (Instr.makeSlice 95 (.int .i64 (c : Int)) (.int .i64 (c : Int))).run Tryd.prog w = .ok (.slice (some ⟨w.heap.size, 0, none⟩) c c) (w.alloc (.cells (madeCells #[.bool false] c) 4)) :=
  run_make_row' (P := Tryd.prog) 95 4 (.bool false) 1 Tryd.underlying95 Tryd.info4 rfl .i64 .i64 c (by omega) (by omega) w

theorem rnew_any (n : Int) (w : World) :
    Calls Tryd.prog 28 #[.int .i64 n] w fun e w' => e = .returned (.pointer (some ⟨w.heap.size + 1, 0, none⟩)) ∧ rnewW w (clampN n) = w' := by
  rcases clamp_cases n with ⟨h1, h2⟩ | ⟨h1, h2, h3⟩ | ⟨h1, h2⟩
  · rw [h2]
    clear h2
    have hmk := make_bools 0 (by decide)
    rw [show ((0 : Nat) : Int) = 0 from rfl] at hmk
    go_enter Tryd.func28, Tryd.ntmps28
    go_wp2
    go_ret
    exact ⟨rfl, rfl⟩
  · obtain ⟨m, hm⟩ : ∃ m, clampN n = m := ⟨_, rfl⟩
    have hm6 := clamp_le n
    rw [hm] at h3 hm6 ⊢
    clear hm
    subst h3
    have hmk := make_bools m hm6
    go_enter Tryd.func28, Tryd.ntmps28
    go_wp2
    go_ret
    exact ⟨rfl, rfl⟩
  · rw [h2]
    clear h2
    have hmk := make_bools 65536 (Nat.le_refl _)
    rw [← c65536] at hmk
    rcases Int.lt_or_eq_of_le h1 with h3 | rfl
    all_goals
      go_enter Tryd.func28, Tryd.ntmps28
      go_wp2
      go_ret
      exact ⟨rfl, rfl⟩

theorem put_any (b g n : Nat) (f : Nat → Bool) (i : Int) (c : Bool) (w : World) (h : RefAt w b g n f) :
    Calls Tryd.prog 30 #[.pointer (some ⟨b, 0, none⟩), .int .i64 i, .bool c] w fun e w' => e = .returned (.bool (isP n i && (f i.toNat != c))) ∧ RefAt w' b g n (turn n f i c) ∧ Only g w w' := by
  have hs := h.ins
  have few := h.few
  cases hp : isP n i
  · have hE : RefAt w b g n (turn n f i c) := h.congr (turn_same (fun e => by rw [hp] at e; cases e))
    have HE : Hid (RefAt w b g n (turn n f i c)) := hE
    have hn := isP_false.1 hp
    clear h hp hE
    by_cases h0 : i < 0
    · go_enter Tryd.func30, Tryd.ntmps30
      go_wp2
      go_ret
      exact ⟨ret_bool rfl, HE.out, Only.refl _ _⟩
    · have h1 : (n : Int) ≤ i := by omega
      clear hn
      go_enter Tryd.func30, Tryd.ntmps30
      go_wp2
      go_ret
      exact ⟨ret_bool rfl, HE.out, Only.refl _ _⟩
  · obtain ⟨h0, h1⟩ := isP_true.1 hp
    obtain ⟨k, rfl⟩ : ∃ k : Nat, i = k := ⟨i.toNat, by omega⟩
    rw [Int.toNat_natCast]
    have hc := h.cell k (by omega)
    have hz := h.thawed k
    cases hf : (f k != c)
    · have hfc : f k = c := by simpa using hf
      have HE : Hid (RefAt w b g n (turn n f k c)) := h.congr (turn_same (fun e => by rw [Int.toNat_natCast]; exact hfc))
      rw [hfc] at hc
      clear h hp hf hfc
      cases c
      all_goals
        go_enter Tryd.func30, Tryd.ntmps30
        go_wp2
        go_ret
        exact ⟨ret_bool rfl, HE.out, Only.refl _ _⟩
    · have hfc : f k = !c := by cases hh : f k <;> cases c <;> simp_all
      have HE : Hid (RefAt (w.setCell ⟨g, k, none⟩ (.bool c)) b g n (turn n f k c)) := (h.stored c (by omega)).congr (turn_put hp)
      rw [hfc] at hc
      clear h hp hf hfc
      cases c
      all_goals
        go_enter Tryd.func30, Tryd.ntmps30
        go_wp2
        go_ret
        exact ⟨ret_bool rfl, HE.out, Only.set _ _ _ _⟩
end Go.Proofs.YtbajchidpffbpaaDoor

/- Layer 17: SetS again -/
namespace Go.Proofs.YtbajchidpffbpaaDoor
open Go.RowKit
set_option linter.unusedVariables false
set_option maxRecDepth 4000
set_option maxHeartbeats 1000000 in
theorem rlist_any (b g n : Nat) (f : Nat → Bool) (w : World) (hR : RefAt w b g n f) :
    Calls Tryd.prog 54 #[.pointer (some ⟨b, 0, none⟩)] w fun e w' => ∃ a cap, e = .returned (.slice a (lsL f n).length cap) ∧ Owns w' w.heap.size 3 .i64 a (lsL f n) cap ∧ Below w.heap.size w w' := by
  have few := hR.few
  have hs := hR.ins
  have HR : Hid (RefAt w b g n f) := hR
  clear hR
  go_enter Tryd.func54, Tryd.ntmps54
  go_wp2
  go_loopw [3, 10] (fun lv iv wr => ∃ (k : Nat) (a : Option Addr) (cap : Nat), k ≤ n ∧ iv = .int .i64 k ∧ lv = .slice a (lsL f k).length cap ∧ Owns wr w.heap.size 3 .i64 a (lsL f k) cap ∧ Below w.heap.size w wr) (fun _ iv _ => n - (intOf iv).toNat)
  case atStart => exact ⟨0, none, 0, Nat.zero_le _, rfl, rfl, World.ownsRow_nil _ _ _ _, Below.refl _ _⟩
  case round =>
    obtain ⟨k, a, cap, hk, rfl, rfl, ho, hb⟩ := hrel
    have HO : Hid (Owns _ w.heap.size 3 .i64 a (lsL f k) cap) := ho
    have HB : Hid (Below w.heap.size w _) := hb
    have hll : (lsL f k).length ≤ k := by rw [lsL_len]; exact cnt_le f k
    by_cases hlt : k < n
    · have hR2 := HR.out.keepAll hb
      have hs2 := hR2.ins
      have hcell := hR2.cell k hlt
      clear ho hb hR2
      cases hf : f k
      · have EL : Hid (lsL f (k + 1) = lsL f k) := by show _ = _; rw [lsL, hf]; simp
        rw [hf] at hcell
        clear hf
        go_wp2
        go_roundw
        case rel => exact ⟨k + 1, a, cap, by omega, by go_num, by rw [EL.out], by rw [EL.out]; exact HO.out, HB.out⟩
        case measure => simp [intOf]; omega
      · have EL : Hid (lsL f (k + 1) = lsL f k ++ [(k : Int)]) := by show _ = _; rw [lsL, hf]; simp
        rw [hf] at hcell
        clear hf
        go_wp2_with (at_builtin; refine wpList_one rfl _ _ 22 3 .i64 0 8 rfl Tryd.underlying22 Tryd.info3 w.heap.size ?q1 a (lsL f k) cap rfl ?q2 _ 1 (k : Int) rfl ?q3 ?q4 ?q5 ?_)
        case q1 => have := HB.out.size; simp; omega
        case q2 => exact World.ownsRow.alloc HO.out _
        case q3 => simp
        case q4 => omega
        case q5 => omega
        intro a3 c3 w3 o3 b3
        have O3 : Hid (Owns w3 w.heap.size 3 .i64 a3 (lsL f (k + 1)) c3) := by show Owns _ _ _ _ _ _ _; rw [EL.out]; exact o3
        have B3 : Hid (Below w.heap.size w w3) := (HB.out.alloc HB.out.size _).trans b3
        have hlen : (lsL f k).length + 1 = (lsL f (k + 1)).length := by rw [EL.out]; simp
        rw [hlen]
        clear o3 b3 hlen
        go_wp2
        go_roundw
        case rel => exact ⟨k + 1, a3, c3, by omega, by go_num, rfl, O3.out, B3.out⟩
        case measure => simp [intOf]; omega
    · obtain rfl : k = n := by omega
      clear ho hb
      go_wp2
      go_ret
      exact ⟨a, cap, rfl, HO.out, HB.out⟩

theorem bysL_snoc (f : Nat → Bool) (m : Nat) : bysL f (m + 1) = bysL f m ++ [((byt f m : Nat) : Int)] := by
  simp [bysL, List.range_succ]

/-- Eight bits a byte, as far as there are places. -/
theorem byt_short (f : Nat → Bool) (j t n : Nat) (h : ∀ i, f i = true → i < n) (hn : n ≤ 8 * j + t) : numOf (fun k => f (8 * j + k)) t = byt f j ∨ 8 < t := by
  by_cases h8 : 8 < t
  · exact .inr h8
  · left
    refine eq_numOf (Nat.lt_of_lt_of_le (numOf_lt _ t) (Nat.pow_le_pow_right (by decide) (by omega))) fun k hk => ?_
    rw [numOf_bit]
    by_cases hkt : k < t
    · simp [hkt]
    · have : f (8 * j + k) ≠ true := fun e => by have := h _ e; omega
      simp [hkt, this]

set_option maxHeartbeats 2000000 in
theorem srbytes_any (b g n : Nat) (f : Nat → Bool) (w : World) (hR : RefAt w b g n f) :
    Calls Tryd.prog 31 #[.pointer (some ⟨b, 0, none⟩)] w fun e w' => ∃ a cap, e = .returned (.slice a (bysL f ((n + 7) / 8)).length cap) ∧ Owns w' w.heap.size 5 .u8 a (bysL f ((n + 7) / 8)) cap ∧ Below w.heap.size w w' := by
  have few := hR.few
  have HR : Hid (RefAt w b g n f) := hR
  clear hR
  go_enter Tryd.func31, Tryd.ntmps31
  go_wp2
  go_loopw [3, 4, 5, 6, 7] (fun lv iv _ _ _ wr => ∃ (m y : Nat) (a : Option Addr) (cap : Nat), iv = .int .i64 y ∧ Hid (y = 8 * m) ∧ m ≤ (n + 7) / 8 ∧ lv = .slice a (bysL f m).length cap ∧ Owns wr w.heap.size 5 .u8 a (bysL f m) cap ∧ Below w.heap.size w wr) (fun _ iv _ _ _ _ => n - (intOf iv).toNat)
  case atStart => exact ⟨0, 0, none, 0, rfl, rfl, Nat.zero_le _, rfl, World.ownsRow_nil _ _ _ _, Below.refl _ _⟩
  case round =>
    obtain ⟨m, y, a, cap, rfl, HY, hm, rfl, ho, hb⟩ := hrel
    have HO : Hid (Owns _ w.heap.size 5 .u8 a (bysL f m) cap) := ho
    have HB : Hid (Below w.heap.size w _) := hb
    have hR2 := HR.out.keepAll hb
    have hs2 := hR2.ins
    have HC : Hid (∀ j, j < n → World.cell? _ ⟨g, j, none⟩ = some (.bool (f j))) := hR2.cell
    have hbl := bysL_len f m
    have hbb : (bysL f m).length ≤ 8192 := by omega
    have hy6 : y ≤ 65544 := by have := HY.out; omega
    clear ho hb hR2 hbl
    by_cases hlt : y < n
    · go_wp2
      go_loop [5, 6, 7] (fun cv ov kv => ∃ t c p x : Nat, cv = .int .i64 c ∧ ov = .int .i64 p ∧ kv = .int .i64 x ∧ t ≤ 8 ∧ x ≤ n ∧ Hid (x = y + t) ∧ Hid (numOf (fun k => f (y + k)) t = c) ∧ Hid (2 ^ t = p)) (fun _ _ kv => y + 8 - (intOf kv).toNat)
      case atStart => exact ⟨0, 0, 1, y, rfl, rfl, rfl, by omega, by omega, rfl, rfl, rfl⟩
      case round =>
        obtain ⟨t, c, p, x, rfl, rfl, rfl, ht, hxn, HX, HN, HP⟩ := hrel
        have hp8 : p ≤ 256 := by rw [← HP.out]; exact Nat.pow_le_pow_right (by decide) ht
        have hc8 : c < p := by rw [← HN.out, ← HP.out]; exact numOf_lt _ t
        have hx8 : x ≤ y + 8 := by have := HX.out; omega
        by_cases h1 : x < y + 8
        · by_cases h2 : x < n
          · have hcell := HC.out x h2
            have ht8 : t < 8 := by have := HX.out; omega
            have HP2 : Hid (2 ^ (t + 1) = p * 2) := by show _ = _; rw [Nat.pow_succ, HP.out]
            cases hf : f x
            · have HN2 : Hid (numOf (fun k => f (y + k)) (t + 1) = c) := by show _ = _; rw [numOf, HN.out, ← HX.out, hf]; simp
              rw [hf] at hcell
              clear hf
              go_wp2
              go_round
              case rel => exact ⟨t + 1, c, p * 2, x + 1, rfl, by go_num, by go_num, by omega, by omega, by have := HX.out; show _ = _; omega, HN2, HP2⟩
              case measure => simp [intOf]; omega
            · have HN2 : Hid (numOf (fun k => f (y + k)) (t + 1) = c + p) := by show _ = _; rw [numOf, HN.out, ← HX.out, hf, HP.out]; simp
              rw [hf] at hcell
              clear hf
              go_wp2
              go_round
              case rel => exact ⟨t + 1, c + p, p * 2, x + 1, by go_num, by go_num, by go_num, by omega, by omega, by have := HX.out; show _ = _; omega, HN2, HP2⟩
              case measure => simp [intOf]; omega
          · have HBY : Hid (c = byt f m) := by
              have e := HX.out
              have ey := HY.out
              rcases byt_short f m t n HR.out.within (by omega) with h | h
              · show c = _; rw [← h, ← HN.out, ey]
              · omega
            have hc256 : c < 256 := by omega
            go_wp2_with (at_builtin; refine wpList_one rfl _ _ 25 5 .u8 0 1 rfl Tryd.underlying25 Tryd.info5 w.heap.size ?q1 a (bysL f m) cap rfl ?q2 _ 1 (c : Int) rfl ?q3 ?q4 ?q5 ?_)
            case q1 => have := HB.out.size; simp; omega
            case q2 => exact World.ownsRow.alloc HO.out _
            first | (case q3 => simp) | skip
            case q4 => omega
            case q5 => omega
            intro a3 c3 w3 o3 b3
            have O3 : Hid (Owns w3 w.heap.size 5 .u8 a3 (bysL f (m + 1)) c3) := by show Owns _ _ _ _ _ _ _; rw [bysL_snoc, ← HBY.out]; exact o3
            have B3 : Hid (Below w.heap.size w w3) := (HB.out.alloc HB.out.size _).trans b3
            have hlen : (bysL f m).length + 1 = (bysL f (m + 1)).length := by rw [bysL_len, bysL_len]
            rw [hlen]
            clear o3 b3 hlen
            go_wp2
            go_roundw
            case rel => exact ⟨m + 1, y + 8, a3, c3, by go_num, by have := HY.out; show _ = _; omega, by have := HY.out; omega, rfl, O3.out, B3.out⟩
            case measure => simp [intOf]; omega
        · have HBY : Hid (c = byt f m) := by
              have e := HX.out
              have ey := HY.out
              have t8 : t = 8 := by omega
              show c = _
              rw [← HN.out, ey, t8]; rfl
          have hc256 : c < 256 := by omega
          go_wp2_with (at_builtin; refine wpList_one rfl _ _ 25 5 .u8 0 1 rfl Tryd.underlying25 Tryd.info5 w.heap.size ?q1 a (bysL f m) cap rfl ?q2 _ 1 (c : Int) rfl ?q3 ?q4 ?q5 ?_)
          case q1 => have := HB.out.size; simp; omega
          case q2 => exact World.ownsRow.alloc HO.out _
          first | (case q3 => simp) | skip
          case q4 => omega
          case q5 => omega
          intro a3 c3 w3 o3 b3
          have O3 : Hid (Owns w3 w.heap.size 5 .u8 a3 (bysL f (m + 1)) c3) := by show Owns _ _ _ _ _ _ _; rw [bysL_snoc, ← HBY.out]; exact o3
          have B3 : Hid (Below w.heap.size w w3) := (HB.out.alloc HB.out.size _).trans b3
          have hlen : (bysL f m).length + 1 = (bysL f (m + 1)).length := by rw [bysL_len, bysL_len]
          rw [hlen]
          clear o3 b3 hlen
          go_wp2
          go_roundw
          case rel => exact ⟨m + 1, y + 8, a3, c3, by go_num, by have := HY.out; show _ = _; omega, by have := HY.out; omega, rfl, O3.out, B3.out⟩
          case measure => simp [intOf]; omega
    · have em : m = (n + 7) / 8 := by have := HY.out; omega
      subst em
      go_wp2
      go_ret
      exact ⟨a, cap, rfl, HO.out, HB.out⟩
end Go.Proofs.YtbajchidpffbpaaDoor
