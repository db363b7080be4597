/- Numbers as long as they must be, of layer 1: what Len64, Size and Var answer. -/
import Derived.Test.YtgpkiajakokjmaaKdA
namespace Go.Proofs.Ytgpkiajakokjmaa
open Go.RowKit
set_option linter.unusedVariables false
set_option maxRecDepth 4000

set_option maxHeartbeats 4000000 in
set_option maxRecDepth 100000 in
theorem len64_any (x : Int) (w : World) (h0 : 0 ≤ x) (h1 : x ≤ 18446744073709551615) :
    Calls Try.prog 56 #[.int .u64 x] w fun e w' => e = .returned (.int .i64 (Lib.bitLen x.toNat)) ∧ w = w' := by
  have hs := Lib.len8tab_size
  go_enter Try.func56, Try.ntmps56
  go_wp2
  all_goals (go_ret; refine ⟨congrArg Ending.returned (congrArg (Value.int IntKind.i64) ?_), rfl⟩)
  all_goals first
    | exact tab_close0 x (by omega)
    | (refine tab_close 56 _ x (by omega) (by omega) (by omega) ?_
       have s := Lib.bitLen_shift56 x.toNat (by omega) (by omega)
       rw [show (x / 4294967296 / 65536 / 256).toNat = x.toNat / 72057594037927936 from by omega]; omega)
    | (refine tab_close 48 _ x (by omega) (by omega) (by omega) ?_
       have s := Lib.bitLen_shift48 x.toNat (by omega) (by omega)
       rw [show (x / 4294967296 / 65536).toNat = x.toNat / 281474976710656 from by omega]; omega)
    | (refine tab_close 40 _ x (by omega) (by omega) (by omega) ?_
       have s := Lib.bitLen_shift40 x.toNat (by omega) (by omega)
       rw [show (x / 4294967296 / 256).toNat = x.toNat / 1099511627776 from by omega]; omega)
    | (refine tab_close 32 _ x (by omega) (by omega) (by omega) ?_
       have s := Lib.bitLen_shift32 x.toNat (by omega) (by omega)
       rw [show (x / 4294967296).toNat = x.toNat / 4294967296 from by omega]; omega)
    | (refine tab_close 24 _ x (by omega) (by omega) (by omega) ?_
       have s := Lib.bitLen_shift24 x.toNat (by omega) (by omega)
       rw [show (x / 65536 / 256).toNat = x.toNat / 16777216 from by omega]; omega)
    | (refine tab_close 16 _ x (by omega) (by omega) (by omega) ?_
       have s := Lib.bitLen_shift16 x.toNat (by omega) (by omega)
       rw [show (x / 65536).toNat = x.toNat / 65536 from by omega]; omega)
    | (refine tab_close 8 _ x (by omega) (by omega) (by omega) ?_
       have s := Lib.bitLen_shift8 x.toNat (by omega) (by omega)
       rw [show (x / 256).toNat = x.toNat / 256 from by omega]; omega)
theorem size_any (n : Int) (w : World) (h0 : 0 ≤ n) (h1 : n ≤ 18446744073709551615) :
    Calls Try.prog 44 #[.int .u64 n] w fun e w' => e = .returned (.int .i64 (varL n).length) ∧ w = w' := by
  obtain ⟨a, b, c⟩ := or_one_bitLen n h0 h1
  have hl := varL_le n
  have hbl : Lib.bitLen (bits .or .u64 n 1).toNat ≤ 70 := by omega
  have C : Hid ((Lib.bitLen (bits .or .u64 n 1).toNat + 6) / 7 = (varL n).length) := c
  clear c
  go_enter Try.func44, Try.ntmps44
  go_wp2_with (go_at_call 56; refine (len64_any (bits .or .u64 n 1) _ a b).mono ?_; rintro e w' ⟨rfl, rfl⟩)
  go_ret
  exact ⟨congrArg Ending.returned (congrArg (Value.int IntKind.i64) (by rw [← C.out]; omega)), rfl⟩

/-- What is owned can be read. -/
theorem isB_owns {w : World} {base g cap : Nat} {l : List Int} (hb : ∀ x ∈ l, 0 ≤ x ∧ x ≤ 255) (h : w.ownsRow base 5 1 (.slice (some ⟨g, 0, none⟩) l.length cap) l.length (l.map (Value.int .u8))) :
    IsB w (some ⟨g, 0, none⟩) l := by
  refine ⟨hb, .inr ⟨g, 0, rfl, ?_, ?_⟩⟩
  · obtain ⟨_, ⟨h1, _⟩ | ⟨g', c', cur, h1, _, h2, _⟩⟩ := h
    · cases h1
    · cases h1
      exact (Array.getElem?_eq_some_iff.1 h2).1
  · intro i hi
    have := h.cellAt i (by omega)
    rw [Nat.zero_add, this]
    simp [List.getD, hi]
theorem ret_slice {a : Option Addr} {n n' c : Nat} (h : n = n') : Ending.returned (.slice a n c) = .returned (.slice a n' c) := by rw [h]
/-- How far the digits have come. -/
def VarAt (n : Int) (B : Nat) (w wr : World) (f : Nat) (L : List Int) (m : Int) : Prop :=
  varL n = L ++ digs f m ∧ 0 ≤ m ∧ m ≤ 18446744073709551615 ∧ m < 128 ^ (f + 1) ∧ L.length + f = 9 ∧
    wr.ownsRow B 5 1 (.slice (some ⟨B, 0, none⟩) L.length (varL n).length) L.length (L.map (Value.int .u8)) ∧ Below B w wr
theorem varAt_room {n : Int} {B : Nat} {w wr : World} {f : Nat} {L : List Int} {m : Int} (h : VarAt n B w wr f L m) : L.length + 1 ≤ (varL n).length := by
  rw [h.1, List.length_append]
  have := digs_pos f m
  omega
set_option maxHeartbeats 1000000 in
theorem var_any (n : Int) (w : World) (h0 : 0 ≤ n) (h1 : n ≤ 18446744073709551615) :
    Calls Try.prog 25 #[.int .u64 n] w fun e w' => e = .returned (.slice (some ⟨w.heap.size, 0, none⟩) (varL n).length (varL n).length) ∧ w'.ownsRow w.heap.size 5 1 (.slice (some ⟨w.heap.size, 0, none⟩) (varL n).length (varL n).length) (varL n).length ((varL n).map (Value.int .u8)) ∧ Below w.heap.size w w' := by
  obtain ⟨i0, hi, hz0, hz1, hz2⟩ := info_parts Try.info5
  have hl := varL_le n
  go_enter Try.func25, Try.ntmps25
  go_wp2_with (first
    | (go_at_call 44; refine (size_any n _ h0 h1).mono ?_; rintro e w' ⟨rfl, rfl⟩)
    | (at_make; refine wpList_make_own _ rfl _ _ 30 rfl w.heap.size 5 i0 (.int .u8 0) 1 Try.underlying30 hi hz0 hz1 _ _ _ (varL n).length rfl rfl (by omega) ?b2 ?b3 (Nat.le_refl _) ?_))
  case b2 => rw [hz2]; omega
  case b3 => unfold maxLen; omega
  intro w0 hown0 hgrow0
  go_wp2
  go_loopw [0, 3] (fun t v wr => ∃ (f : Nat) (L : List Int) (m : Int), t = .int .u64 m ∧ v = .slice (some ⟨w.heap.size, 0, none⟩) L.length (varL n).length ∧ VarAt n w.heap.size w wr f L m) (fun t _ _ => (intOf t).toNat)
  case atStart => exact ⟨9, [], n, rfl, rfl, rfl, h0, h1, big10 n h1, rfl, hown0, (Below.refl _ _).grown hgrow0 (Nat.le_refl _) (fun k h => by cases h)⟩
  case round =>
    obtain ⟨f, L, m, rfl, rfl, hV⟩ := hrel
    have hroom := varAt_room hV
    obtain ⟨hx, m0, m1, hf, hLf, hown, hnx⟩ := hV
    have HX : Hid (varL n = L ++ digs f m) := hx
    clear hx
    by_cases hlt : 128 ≤ m
    · go_wp2_with (at_builtin; refine wpList_append_fits _ rfl (.tmp 9) (.tmp 14) 30 rfl w.heap.size 5 i0 1 Try.underlying30 hi hz1 w.heap.size L.length (varL n).length _ rfl (hown.alloc _) ⟨wr.heap.size, 0, none⟩ 1 1 [.int .u8 (m % 128 + 128)] rfl rfl (by intro t u ht; match t, ht with | 0, ht => simp at ht; subst ht; simp [Addr.add]) (by intro u hu; simp at hu; subst hu; rfl) (by omega) ?_; intro w1 hown1 hgrow1)
      obtain ⟨f', rfl, hd, hf'⟩ := digs_step f m hlt hf
      have R : VarAt n w.heap.size w w1 f' (L ++ [m % 128 + 128]) (m / 128) :=
        ⟨by rw [HX.out, hd]; simp, by omega, by omega, hf', by simp; omega, by simpa using hown1, (hnx.alloc hnx.size _).grown hgrow1 (by simp; have := hnx.size; omega) (fun k hk => by cases hk; exact Nat.le_refl _)⟩
      go_roundw
      case rel => exact ⟨f', L ++ [m % 128 + 128], m / 128, rfl, by simp, R⟩
      case measure => simp [intOf]; omega
    · have hm : m < 128 := by omega
      go_wp2_with (at_builtin; refine wpList_append_fits _ rfl (.tmp 18) (.tmp 21) 30 rfl w.heap.size 5 i0 1 Try.underlying30 hi hz1 w.heap.size L.length (varL n).length _ rfl (hown.alloc _) ⟨wr.heap.size, 0, none⟩ 1 1 [.int .u8 m] rfl rfl (by intro t u ht; match t, ht with | 0, ht => simp at ht; subst ht; simp [Addr.add]) (by intro u hu; simp at hu; subst hu; rfl) (by omega) ?_; intro w1 hown1 hgrow1)
      have hd := digs_last f m hm
      have hx : varL n = L ++ [m] := by rw [HX.out, hd]
      have hlen : L.length + 1 = (varL n).length := by rw [hx]; simp
      go_ret
      rw [hlen] at hown1
      refine ⟨ret_slice hlen, ?_, (hnx.alloc hnx.size _).grown hgrow1 (by simp; have := hnx.size; omega) (fun k hk => by cases hk; exact Nat.le_refl _)⟩
      have hm' : (varL n).map (Value.int .u8) = L.map (Value.int .u8) ++ [Value.int .u8 m] := by rw [hx]; simp
      rw [hm']
      exact hown1
end Go.Proofs.Ytgpkiajakokjmaa
