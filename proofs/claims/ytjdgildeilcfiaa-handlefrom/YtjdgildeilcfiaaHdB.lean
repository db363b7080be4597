/- The leaves of layer 12: Of, apart, the closure, IndexFunc, next, Full. -/
import Derived.Test.YtjdgildeilcfiaaHdA
namespace Go.Proofs.Ytjdgildeilcfiaa
open Go.RowKit
set_option linter.unusedVariables false

theorem or_nat (a b : Nat) (ha : a < 2 ^ 64) (hb : b < 2 ^ 64) : bits .or .u64 (a : Int) (b : Int) = ((a ||| b : Nat) : Int) := by
  have := u64_or (a : Int) (b : Int) (by omega) (by omega) (by omega) (by omega)
  simpa using this
theorem or_of (i g : Nat) (hi : i < 65536) (hg : g < 65536) : bits .or .u64 ((g * 65536 : Nat) : Int) (i : Nat) = ((i + 65536 * g : Nat) : Int) := by
  rw [or_nat _ _ (by omega) (by omega), show g * 65536 = g <<< 16 from by rw [Nat.shiftLeft_eq], ← Nat.shiftLeft_add_eq_or_of_lt (by omega : i < 2 ^ 16), Nat.shiftLeft_eq]
  congr 1
  omega

theorem of_any (i g : Int) (w : World) (hi : -9223372036854775808 ≤ i ∧ i ≤ 9223372036854775807) (hg : -9223372036854775808 ≤ g ∧ g ≤ 9223372036854775807) :
    Calls Try.prog 18 #[.int .i64 i, .int .i64 g] w fun e w' => e = .returned (.int .u64 (ofN i g : Nat)) ∧ w = w' := by
  by_cases h1 : i < 1
  · rw [of_out (by omega)]
    go_enter Try.func18, Try.ntmps18
    go_wp2
    go_ret
    exact ⟨rfl, rfl⟩
  · by_cases h2 : 4096 < i
    · rw [of_out (by omega)]
      go_enter Try.func18, Try.ntmps18
      go_wp2
      go_ret
      exact ⟨rfl, rfl⟩
    · by_cases h3 : g < 1
      · rw [of_out (by omega)]
        go_enter Try.func18, Try.ntmps18
        go_wp2
        go_ret
        exact ⟨rfl, rfl⟩
      · by_cases h4 : 65535 < g
        · rw [of_out (by omega)]
          go_enter Try.func18, Try.ntmps18
          go_wp2
          go_ret
          exact ⟨rfl, rfl⟩
        · rw [of_in (by omega)]
          obtain ⟨x, rfl⟩ : ∃ x : Nat, i = x := ⟨i.toNat, by omega⟩
          obtain ⟨y, rfl⟩ : ∃ y : Nat, g = y := ⟨g.toNat, by omega⟩
          have E : Hid (bits .or .u64 ((y : Int) * 65536) (x : Int) = (((x : Int) + 65536 * (y : Int)).toNat : Nat)) := by
            have := or_of x y (by omega) (by omega)
            show _ = _
            rw [show (y : Int) * 65536 = ((y * 65536 : Nat) : Int) from by omega, this]
            omega
          go_enter Try.func18, Try.ntmps18
          go_wp2
          go_ret
          exact ⟨ret_int (E.out.trans (by omega)), rfl⟩

theorem apart_any (h : Nat) (w : World) (hh : h < 18446744073709551616) :
    Calls Try.prog 44 #[.int .u64 (h : Nat)] w fun e w' => e = .returned (.tuple #[.int .i64 ((h % 65536 : Nat) : Int), .int .u64 ((h / 65536 : Nat) : Int)]) ∧ w = w' := by
  go_enter Try.func44, Try.ntmps44
  go_wp2
  have e1 : (h : Int) - (h : Int) / 65536 * 65536 = ((h % 65536 : Nat) : Int) := by omega
  have e2 : (h : Int) / 65536 = ((h / 65536 : Nat) : Int) := by omega
  go_ret2
  refine ⟨?_, rfl⟩
  show Ending.returned (.tuple #[.int .i64 ((h : Int) - (h : Int) / 65536 * 65536), .int .u64 ((h : Int) / 65536)]) = _
  rw [e1, e2]

def rbox (r : Rw) : Obj := .cells #[.int .i64 r.gen, .bool r.live, .int .i64 r.kind, .int .i64 r.pl] 44
theorem next1_any (r : Rw) (w : World) :
    Calls Try.prog 43 #[.agg #[.int .i64 r.gen, .bool r.live, .int .i64 r.kind, .int .i64 r.pl]] w fun e w' => e = .returned (.bool (canG r)) ∧ w' = w.alloc (rbox r) := by
  obtain ⟨g, lv, k, p⟩ := r
  cases lv with
  | true =>
    go_enter Try.func43, Try.ntmps43
    go_wp2
    go_ret
    exact ⟨rfl, rfl⟩
  | false =>
    by_cases hg : g < 65535
    · have e : canG ⟨g, false, k, p⟩ = true := by simp [canG, hg]
      rw [e]
      go_enter Try.func43, Try.ntmps43
      go_wp2
      go_ret
      exact ⟨rfl, rfl⟩
    · have e : canG ⟨g, false, k, p⟩ = false := by simp [canG, hg]
      rw [e]
      go_enter Try.func43, Try.ntmps43
      go_wp2
      go_ret
      exact ⟨rfl, rfl⟩

set_option maxHeartbeats 1000000 in
theorem index_any (a : Option Addr) (c : Nat) (xs : List Rw) (w : World) (h : IsW w a xs) (hx : xs.length ≤ 1000000) (R : Int) (hR : (if nxL xs < xs.length then ((nxL xs : Nat) : Int) else -1) = R) :
    Calls Try.prog 42 #[.slice a xs.length c, .func (.func 43) #[] #[]] w fun e w' => Below w.heap.size w w' ∧ e = .returned (.int .i64 R) := by
  have HR : Hid ((if nxL xs < xs.length then ((nxL xs : Nat) : Int) else -1) = R) := hR
  clear hR
  have H : Hid (IsW w a xs) := h
  have B0 : Hid (Below w.heap.size w w) := Below.refl _ _
  clear h
  go_enter Try.func42, Try.ntmps42
  go_wp2
  go_loopw [8] (fun iv wr => ∃ i : Nat, i ≤ xs.length ∧ iv = .int .i64 (i : Nat) ∧ (∀ j (hj : j < i) (hj' : j < xs.length), canG xs[j] = false) ∧ Below w.heap.size w wr) (fun iv _ => xs.length - (intOf iv).toNat)
  case atStart => exact ⟨0, Nat.zero_le _, rfl, fun j hj => by omega, B0.out⟩
  case round =>
    obtain ⟨i, hi, rfl, hA, hB⟩ := hrel
    rename World => wr
    have HA : Hid (∀ j (hj : j < i) (hj' : j < xs.length), canG xs[j] = false) := hA
    have HB : Hid (Below w.heap.size w wr) := hB
    by_cases hlt : i < xs.length
    · rcases H.out.keep hB with e | ⟨b, off, rfl, hb, hc⟩
      · rw [e] at hlt; simp at hlt
      · obtain ⟨c0, c1, c2, c3⟩ := hc i hlt
        obtain ⟨x, hx'⟩ : ∃ x, xs[i] = x := ⟨_, rfl⟩
        have EX : Hid (xs[i] = x) := hx'
        rw [hx'] at c0 c1 c2 c3
        clear hA hB hx' hc
        have hlt' : (i : Int) < xs.length := by omega
        cases hz : canG x with
        | true =>
          have EZ : Hid (canG x = true) := hz
          have EN : Hid ((if nxL xs < xs.length then ((nxL xs : Nat) : Int) else -1) = (i : Nat)) := by
            have := nx_eq hlt (by rw [EX.out]; exact hz) (fun j hj => HA.out j hj (by omega))
            show _ = _
            rw [this, if_pos hlt]
          clear hz
          go_wp2_with (go_at_call 43; refine (next1_any x _).mono ?_; rw [EZ.out]; rintro e w1 ⟨rfl, rfl⟩)
          go_ret
          exact ⟨HB.out.alloc HB.out.size _, ret_int (EN.out.symm.trans HR.out)⟩
        | false =>
          have EZ : Hid (canG x = false) := hz
          clear hz
          go_wp2_with (go_at_call 43; refine (next1_any x _).mono ?_; rw [EZ.out]; rintro e w1 ⟨rfl, rfl⟩)
          go_roundw
          case rel =>
            refine ⟨i + 1, by omega, by go_num, fun j hj hj' => ?_, HB.out.alloc HB.out.size _⟩
            rcases Nat.lt_or_ge j i with k | k
            · exact HA.out j k hj'
            · obtain rfl : j = i := by omega
              rw [EX.out]; exact EZ.out
          case measure => simp [intOf]; omega
    · obtain rfl : i = xs.length := by omega
      have EN : Hid ((if nxL xs < xs.length then ((nxL xs : Nat) : Int) else -1) = -1) := by
        have := nx_none (fun j hj => HA.out j hj hj)
        show _ = _
        rw [this, if_neg (by omega)]
      clear hA hB
      go_wp2
      go_ret
      exact ⟨HB.out, ret_int (EN.out.symm.trans HR.out)⟩

/-- The code's table. -/
structure Ct (w : World) (B b : Nat) (a : Option Addr) (c n : Nat) (L : List Rw) : Prop where
  box : w.heap[b]? = some (.cells #[.int .i64 (n : Nat), .slice a L.length c] 77 (0, 0))
  row : Ow w B a L c
  gd : Gd n L
  bb : B ≤ b
theorem Ct.lt {w : World} {B b : Nat} {a : Option Addr} {c n : Nat} {L : List Rw} (h : Ct w B b a c n L) : b < w.heap.size := hlt h.box
theorem Ct.cell0 {w : World} {B b : Nat} {a : Option Addr} {c n : Nat} {L : List Rw} (h : Ct w B b a c n L) : w.cell? ⟨b, 0, none⟩ = some (.int .i64 (n : Nat)) := cell_of_row w b 0 _ _ _ h.box
theorem Ct.cell1 {w : World} {B b : Nat} {a : Option Addr} {c n : Nat} {L : List Rw} (h : Ct w B b a c n L) : w.cell? ⟨b, 1, none⟩ = some (.slice a L.length c) := cell_of_row w b 1 _ _ _ h.box
theorem Ct.thawed {w : World} {B b : Nat} {a : Option Addr} {c n : Nat} {L : List Rw} (h : Ct w B b a c n L) (j : Nat) : w.frozen? ⟨b, j, none⟩ = false := frozen_of_row w b j _ _ h.box
theorem Ct.keep {w w' : World} {B b : Nat} {a : Option Addr} {c n : Nat} {L : List Rw} (h : Ct w B b a c n L) (hb : Below w.heap.size w w') : Ct w' B b a c n L := ⟨by rw [hb.block b h.lt]; exact h.box, h.row.keep hb, h.gd, h.bb⟩
theorem Ct.tu {S : Nat → Prop} {w w' : World} {B b : Nat} {a : Option Addr} {c n : Nat} {L : List Rw} (h : Ct w B b a c n L) (ht : Tu S w w') (h1 : ¬ S b) (h2 : ∀ g, ob a = some g → ¬ S g) : Ct w' B b a c n L := ⟨ht.block b _ h.box h1, h.row.tu ht h2, h.gd, h.bb⟩
theorem Ct.drew {w : World} {B b : Nat} {a : Option Addr} {c n : Nat} {L : List Rw} (h : Ct w B b a c n L) : Ct w.drew B b a c n L := ⟨h.box, h.row, h.gd, h.bb⟩
theorem Ct.drewN {w : World} {B b : Nat} {a : Option Addr} {c n : Nat} {L : List Rw} (h : Ct w B b a c n L) (m : Nat) : Ct (w.drewN m) B b a c n L := ⟨h.box, h.row, h.gd, h.bb⟩
theorem Ct.len {w : World} {B b : Nat} {a : Option Addr} {c n : Nat} {L : List Rw} (h : Ct w B b a c n L) : L.length ≤ 4096 ∧ n ≤ 4096 ∧ L.length ≤ n := ⟨Nat.le_trans h.gd.len h.gd.n2, h.gd.n2, h.gd.len⟩

theorem next_any (B b : Nat) (a : Option Addr) (c n : Nat) (L : List Rw) (w : World) (h : Ct w B b a c n L) :
    Calls Try.prog 37 #[.pointer (some ⟨b, 0, none⟩)] w fun e w' => e = .returned (.int .i64 (nxL L : Nat)) ∧ Below w.heap.size w w' := by
  have H : Hid (Ct w B b a c n L) := h
  have c1 := h.cell1
  have hl := h.len
  have hn := nx_le L
  clear h
  by_cases hlt : nxL L < L.length
  · have E : Hid ((if nxL L < L.length then ((nxL L : Nat) : Int) else -1) = (nxL L : Nat)) := if_pos hlt
    go_enter Try.func37, Try.ntmps37
    go_wp2_with fail
    refine (index_any a c L _ H.out.row.isW (by omega) _ E.out).mono ?_
    rintro e w1 ⟨b1, rfl⟩
    have B1 : Hid (Below w.heap.size w w1) := b1
    clear b1
    have h0 : ¬ (((nxL L : Nat) : Int) < 0) := by omega
    go_wp2
    go_ret
    exact ⟨rfl, B1.out⟩
  · have E : Hid ((if nxL L < L.length then ((nxL L : Nat) : Int) else -1) = -1) := if_neg hlt
    have EL : Hid (nxL L = L.length) := by show _ = _; omega
    go_enter Try.func37, Try.ntmps37
    go_wp2_with fail
    refine (index_any a c L _ H.out.row.isW (by omega) _ E.out).mono ?_
    rintro e w1 ⟨b1, rfl⟩
    have B1 : Hid (Below w.heap.size w w1) := b1
    have d1 := (H.out.keep b1).cell1
    clear b1
    go_wp2
    go_ret
    exact ⟨by rw [EL.out]; rfl, B1.out⟩
end Go.Proofs.Ytjdgildeilcfiaa
