/- What the law DiskMakes goes through. -/
import Derived.Test.YtddkmmkhlfjhiaaDkX
import Derived.Test.YtddkmmkhlfjhiaaDkQ
namespace Go.Proofs.Ytddkmmkhlfjhiaa
open Go.ChangeShapes Go.WideShapes Go.ChangeAt Go.RowKit Go.Maps
set_option linter.unusedVariables false

/-- Bytes that stand at a block's head, and may be written. -/
def Buf (w : World) (g : Nat) (t : TypeId) (l : List Int) : Prop := AllB l ∧ ∃ cur, w.heap[g]? = some (.cells cur t (0, 0)) ∧ cur.toList.take l.length = cellsB l

theorem Buf.ofRow {w : World} {g : Nat} {t : TypeId} {l : List Int} (h : RowB w g t l) (hb : AllB l) : Buf w g t l := ⟨hb, _, h, by rw [show (cellsB l).toArray.toList = cellsB l from rfl, List.take_of_length_le (by simp [cellsB])]⟩
theorem Buf.ofOwns {w : World} {base g cap : Nat} {l : List Int} (h : OwnsB w base (some ⟨g, 0, none⟩) l cap) (hb : AllB l) : Buf w g 5 l := by
  obtain ⟨_, ⟨h1, _⟩ | ⟨g', c', cur, h1, _, h2, _, _, _, h6⟩⟩ := h
  · cases h1
  · cases h1
    exact ⟨hb, cur, h2, by simpa [cellsB] using h6⟩
theorem Buf.cell {w : World} {g i : Nat} {t : TypeId} {l : List Int} (h : Buf w g t l) (hi : i < l.length) : w.cell? ⟨g, i, none⟩ = some (.int .u8 (l.getD i 0)) := by
  obtain ⟨_, cur, h1, h2⟩ := h
  rw [cell_of_row w g i _ _ _ h1]
  have e := cellsB_at l i hi
  rw [← h2, List.getElem?_take, if_pos hi] at e
  simpa using e
theorem Buf.thawed {w : World} {g : Nat} {t : TypeId} {l : List Int} (h : Buf w g t l) (i : Nat) : w.frozen? ⟨g, i, none⟩ = false := by
  obtain ⟨_, cur, h1, _⟩ := h
  exact frozen_of_row w g i _ t h1
theorem Buf.set {w : World} {g i : Nat} {t : TypeId} {l : List Int} {x : Int} (h : Buf w g t l) (hx : 0 ≤ x ∧ x ≤ 255) : Buf (w.setCell ⟨g, i, none⟩ (.int .u8 x)) g t (l.set i x) := by
  obtain ⟨hb, cur, h1, h2⟩ := h
  refine ⟨fun y hy => ?_, cur.setIfInBounds i (.int .u8 x), heap_setCell_same w g i cur t _ h1, ?_⟩
  · rcases List.mem_or_eq_of_mem_set hy with hy | rfl
    · exact hb y hy
    · exact hx
  · rw [List.length_set, Array.toList_setIfInBounds, List.take_set, h2]
    simp [cellsB, List.map_set]
theorem Buf.block {w : World} {g : Nat} {t : TypeId} {l : List Int} (h : Buf w g t l) : ∃ cur, w.heap[g]? = some (.cells cur t (0, 0)) := by obtain ⟨_, cur, h1, _⟩ := h; exact ⟨cur, h1⟩
theorem IsD.only {w w' : World} {base b m g : Nat} {d : Dk} {o : Obj} (h : IsD w base b m d) (ho : Only g w w') (hg : w.heap[g]? = some o) (hk : KC o = false) : IsD w' base b m d :=
  h.same (fun i o' ho' hk' => by rw [ho.block i (fun e => by subst e; rw [hg] at ho'; cases ho'; rw [hk] at hk'; cases hk')]; exact ho')
theorem up_byte (x : Int) : 0 ≤ IntKind.u8.wrap (x + 1) ∧ IntKind.u8.wrap (x + 1) ≤ 255 := by rw [IntKind.wrap_u8]; omega

set_option maxRecDepth 100000 in
set_option maxHeartbeats 8000000 in
theorem makes_fit_bad (n : Nat) (a : Option Addr) (cap : Nat) (l : List Int) (w : World) (h0 : 8 ≤ n) (h1 : n ≤ 65536) (hB : IsB w a l) (hlen : l.length ≤ 140737488355328) (hlc : l.length ≤ cap) (hcm : cap ≤ maxLen) (hbad : ∀ (a : Option Addr) (cap : Nat) (w : World), Calls Try.prog 31 #[.slice a l.length cap] w (fun e w' => e = .returned (.tuple #[.pointer none, .int .i64 2]) ∧ w = w') ∧ Calls Try.prog 32 #[.slice a l.length cap] w (fun e w' => e = .returned (.tuple #[.pointer none, .int .i64 2]) ∧ w = w')) :
    Calls Try.prog 4 #[.int .i64 (n : Nat), .slice a l.length cap] w fun r w' => r = .returned (.bool true) ∧ Below w.heap.size w w' := by
  have HB : Hid (IsB w a l) := hB
  have AB : Hid (AllB l) := hB.1
  have HCM : Hid (cap ≤ maxLen) := hcm
  have HBAD : Hid (∀ (a : Option Addr) (cap : Nat) (w : World), Calls Try.prog 31 #[.slice a l.length cap] w (fun e w' => e = .returned (.tuple #[.pointer none, .int .i64 2]) ∧ w = w') ∧ Calls Try.prog 32 #[.slice a l.length cap] w (fun e w' => e = .returned (.tuple #[.pointer none, .int .i64 2]) ∧ w = w')) := hbad
  clear hbad
  clear hB hcm
  go_enter Try.func4, Try.ntmps4
  go_wp2_with fail
  refine (alive_any _).mono ?_
  rintro e w1 ⟨rfl, b1⟩
  have B1 : Hid (Below w.heap.size w w1) := b1
  have z1 := b1.size
  clear b1
  go_wp2_with fail
  refine (new_fit n w1 h0 h1).mono ?_
  rintro e w2 ⟨rfl, hw2⟩
  have I2 : Hid (IsD w2 w.heap.size (w1.heap.size + 2) 0 (newD n)) := by show IsD _ _ _ _ _; rw [← hw2]; exact newW_is w1 _ n z1 h1
  have B2 : Hid (Below w.heap.size w w2) := by show Below _ _ _; rw [← hw2]; exact B1.out.trans ((newW_below w1 n).mono z1)
  have z2 := B2.out.size
  obtain ⟨b, hb⟩ : ∃ b, w1.heap.size + 2 = b := ⟨_, rfl⟩
  rw [hb] at I2 ⊢
  clear hw2 B1 hb z1
  go_wp2_with fail
  refine (len_any w.heap.size b 0 (newD n) _ I2.out).mono ?_
  rintro e w' ⟨rfl, rfl⟩
  have dn : (newD n).n = n := rfl
  rw [dn]
  go_wp2_with fail
  refine (copy_any a cap l.length l _ rfl (HB.out.keep B2.out) hlen).mono ?_
  rintro e w3 ⟨gi, ci, rfl, o3, b3⟩
  obtain ⟨l3, m3, _⟩ := ownsB_isL o3
  have F3 : Hid (Buf w3 gi 5 l) := Buf.ofOwns o3 AB.out
  have I3 : Hid (IsB w3 (some ⟨gi, 0, none⟩) l) := ownsB_isB AB.out o3
  have GI : Hid (w.heap.size ≤ gi) := Nat.le_trans z2 (own_ge o3 gi rfl)
  have B3 : Hid (Below w.heap.size w w3) := B2.out.trans (b3.mono z2)
  have z3 := B3.out.size
  have M3 : Hid (ci ≤ maxLen) := m3
  clear o3 b3 m3 B2 z2
  go_wp2_with fail
  refine (HBAD.out _ ci _).1.mono ?_
  rintro e w' ⟨rfl, rfl⟩
  go_wp2_with fail
  refine (HBAD.out _ cap _).2.mono ?_
  rintro e w' ⟨rfl, rfl⟩
  go_wp2_with fail
  refine (same_true _ _ _ _ _ _ l _ I3.out (HB.out.keep B3.out) rfl rfl).mono ?_
  rintro e w' ⟨rfl, rfl⟩
  go_wp2
  go_ret
  exact ⟨rfl, B3.out⟩

set_option maxRecDepth 100000 in
set_option maxHeartbeats 8000000 in
theorem makes_else_bad (n : Int) (a : Option Addr) (cap : Nat) (l : List Int) (w : World) (hn : n < 8 ∨ 65536 < n) (hB : IsB w a l) (hlen : l.length ≤ 140737488355328) (hlc : l.length ≤ cap) (hcm : cap ≤ maxLen) (hbad : ∀ (a : Option Addr) (cap : Nat) (w : World), Calls Try.prog 31 #[.slice a l.length cap] w (fun e w' => e = .returned (.tuple #[.pointer none, .int .i64 2]) ∧ w = w') ∧ Calls Try.prog 32 #[.slice a l.length cap] w (fun e w' => e = .returned (.tuple #[.pointer none, .int .i64 2]) ∧ w = w')) :
    Calls Try.prog 4 #[.int .i64 n, .slice a l.length cap] w fun r w' => r = .returned (.bool true) ∧ Below w.heap.size w w' := by
  have HB : Hid (IsB w a l) := hB
  have AB : Hid (AllB l) := hB.1
  have HCM : Hid (cap ≤ maxLen) := hcm
  have HBAD : Hid (∀ (a : Option Addr) (cap : Nat) (w : World), Calls Try.prog 31 #[.slice a l.length cap] w (fun e w' => e = .returned (.tuple #[.pointer none, .int .i64 2]) ∧ w = w') ∧ Calls Try.prog 32 #[.slice a l.length cap] w (fun e w' => e = .returned (.tuple #[.pointer none, .int .i64 2]) ∧ w = w')) := hbad
  clear hbad
  have HN : Hid (n < 8 ∨ 65536 < n) := hn
  have hcase : n < 8 ∨ (¬ n < 8 ∧ 65536 < n) := by omega
  clear hn
  clear hB hcm
  rcases hcase with hc1 | ⟨hc1, hc2⟩
  all_goals
    go_enter Try.func4, Try.ntmps4
    go_wp2_with fail
    refine (alive_any _).mono ?_
    rintro e w1 ⟨rfl, b1⟩
    have B1 : Hid (Below w.heap.size w w1) := b1
    have z1 := b1.size
    clear b1
    go_wp2_with fail
    refine (new_else n w1 HN.out).mono ?_
    rintro e w2 ⟨rfl, hw2⟩
    have B2 : Hid (Below w.heap.size w w2) := by show Below _ _ _; rw [← hw2]; exact B1.out
    have z2 := B2.out.size
    clear hw2 B1 z1
    go_wp2_with fail
    refine (copy_any a cap l.length l _ rfl (HB.out.keep B2.out) hlen).mono ?_
    rintro e w3 ⟨gi, ci, rfl, o3, b3⟩
    obtain ⟨l3, m3, _⟩ := ownsB_isL o3
    have F3 : Hid (Buf w3 gi 5 l) := Buf.ofOwns o3 AB.out
    have I3 : Hid (IsB w3 (some ⟨gi, 0, none⟩) l) := ownsB_isB AB.out o3
    have GI : Hid (w.heap.size ≤ gi) := Nat.le_trans z2 (own_ge o3 gi rfl)
    have B3 : Hid (Below w.heap.size w w3) := B2.out.trans (b3.mono z2)
    have z3 := B3.out.size
    have M3 : Hid (ci ≤ maxLen) := m3
    clear o3 b3 m3 B2 z2
    go_wp2_with fail
    refine (HBAD.out _ ci _).1.mono ?_
    rintro e w' ⟨rfl, rfl⟩
    go_wp2_with fail
    refine (HBAD.out _ cap _).2.mono ?_
    rintro e w' ⟨rfl, rfl⟩
    go_wp2_with fail
    refine (same_true _ _ _ _ _ _ l _ I3.out (HB.out.keep B3.out) rfl rfl).mono ?_
    rintro e w' ⟨rfl, rfl⟩
    go_wp2
    go_ret
    exact ⟨rfl, B3.out⟩

set_option maxRecDepth 100000 in
set_option maxHeartbeats 8000000 in
theorem makes_fit_fit (n : Nat) (a : Option Addr) (cap : Nat) (l : List Int) (w : World) (h0 : 8 ≤ n) (h1 : n ≤ 65536) (hB : IsB w a l) (hlen : l.length ≤ 140737488355328) (hlc : l.length ≤ cap) (hcm : cap ≤ maxLen) (h6 : l.length % 64 = 0) (h8 : 8 ≤ l.length / 64) (h9 : l.length / 64 ≤ 65536) :
    Calls Try.prog 4 #[.int .i64 (n : Nat), .slice a l.length cap] w fun r w' => r = .returned (.bool true) ∧ Below w.heap.size w w' := by
  have HB : Hid (IsB w a l) := hB
  have AB : Hid (AllB l) := hB.1
  have HCM : Hid (cap ≤ maxLen) := hcm
  have H6 : Hid (l.length % 64 = 0) := h6
  have H8 : Hid (8 ≤ l.length / 64) := h8
  have H9 : Hid (l.length / 64 ≤ 65536) := h9
  have HLN : Hid (l.length / 64 * 64 = l.length) := by show _ = _; omega
  clear h6 h8 h9
  clear hB hcm
  go_enter Try.func4, Try.ntmps4
  go_wp2_with fail
  refine (alive_any _).mono ?_
  rintro e w1 ⟨rfl, b1⟩
  have B1 : Hid (Below w.heap.size w w1) := b1
  have z1 := b1.size
  clear b1
  go_wp2_with fail
  refine (new_fit n w1 h0 h1).mono ?_
  rintro e w2 ⟨rfl, hw2⟩
  have I2 : Hid (IsD w2 w.heap.size (w1.heap.size + 2) 0 (newD n)) := by show IsD _ _ _ _ _; rw [← hw2]; exact newW_is w1 _ n z1 h1
  have B2 : Hid (Below w.heap.size w w2) := by show Below _ _ _; rw [← hw2]; exact B1.out.trans ((newW_below w1 n).mono z1)
  have z2 := B2.out.size
  obtain ⟨b, hb⟩ : ∃ b, w1.heap.size + 2 = b := ⟨_, rfl⟩
  rw [hb] at I2 ⊢
  clear hw2 B1 hb z1
  go_wp2_with fail
  refine (len_any w.heap.size b 0 (newD n) _ I2.out).mono ?_
  rintro e w' ⟨rfl, rfl⟩
  have dn : (newD n).n = n := rfl
  rw [dn]
  go_wp2_with fail
  refine (copy_any a cap l.length l _ rfl (HB.out.keep B2.out) hlen).mono ?_
  rintro e w3 ⟨gi, ci, rfl, o3, b3⟩
  obtain ⟨l3, m3, _⟩ := ownsB_isL o3
  have F3 : Hid (Buf w3 gi 5 l) := Buf.ofOwns o3 AB.out
  have I3 : Hid (IsB w3 (some ⟨gi, 0, none⟩) l) := ownsB_isB AB.out o3
  have GI : Hid (w.heap.size ≤ gi) := Nat.le_trans z2 (own_ge o3 gi rfl)
  have B3 : Hid (Below w.heap.size w w3) := B2.out.trans (b3.mono z2)
  have z3 := B3.out.size
  have M3 : Hid (ci ≤ maxLen) := m3
  clear o3 b3 m3 B2 z2
  go_wp2_with fail
  refine (lay_fit w.heap.size _ ci l _ I3.out H6.out H8.out H9.out l3 M3.out z3).mono ?_
  rintro e w4 ⟨bl, rfl, i4, b4⟩
  have I4 : Hid (IsD w4 w.heap.size bl (l.length / 64) (layD l)) := i4
  have F4 : Hid (Buf w4 gi 5 l) := by
    obtain ⟨h1, cur, h2, h3⟩ := F3.out
    exact ⟨h1, cur, by rw [b4.block gi (Array.getElem?_eq_some_iff.1 h2).1]; exact h2, h3⟩
  have J4 : Hid (IsB w4 (some ⟨gi, 0, none⟩) l) := I3.out.keep b4
  have B4 : Hid (Below w.heap.size w w4) := B3.out.trans (b4.mono z3)
  have z4 := B4.out.size
  clear i4 b4 F3 I3 B3 z3
  go_wp2_with fail
  refine (rlay_fit _ cap l _ (HB.out.keep B4.out) H6.out H8.out H9.out hlc HCM.out).mono ?_
  rintro e w5 ⟨br, as0, cs, rfl, x5, b5⟩
  have X5 : Hid (w5.heap[br]? = some (.cells (rboxC as0 (l.length / 64) cs none 0 0 (newD 0)) 51 (0, 0))) := x5
  have I5 : Hid (IsD w5 w.heap.size bl (l.length / 64) (layD l)) := I4.out.keep b5
  have F5 : Hid (Buf w5 gi 5 l) := by
    obtain ⟨h1, cur, h2, h3⟩ := F4.out
    exact ⟨h1, cur, by rw [b5.block gi (Array.getElem?_eq_some_iff.1 h2).1]; exact h2, h3⟩
  have J5 : Hid (IsB w5 (some ⟨gi, 0, none⟩) l) := J4.out.keep b5
  have B5 : Hid (Below w.heap.size w w5) := B4.out.trans (b5.mono z4)
  have z5 := B5.out.size
  clear x5 b5 I4 F4 J4 B4 z4
  go_wp2_with fail
  refine (same_true _ _ _ _ _ _ l _ J5.out (HB.out.keep B5.out) rfl rfl).mono ?_
  rintro e w' ⟨rfl, rfl⟩
  obtain ⟨curg, hcurg⟩ := F5.out.block
  have CG : Hid (w5.heap[gi]? = some (.cells curg 5 (0, 0))) := hcurg
  clear hcurg
  go_wp2
  go_loopw [81] (fun iv wr => ∃ (k : Nat) (l' : List Int), k ≤ l.length ∧ iv = .int .i64 (k : Nat) ∧ l'.length = l.length ∧ Buf wr gi 5 l' ∧ Only gi w5 wr) (fun iv _ => l.length - (intOf iv).toNat)
  case atStart => exact ⟨0, l, Nat.zero_le _, rfl, rfl, F5.out, Only.refl _ _⟩
  case round =>
    obtain ⟨k, l', hk, rfl, hll, hF, hO⟩ := hrel
    rename World => wr
    by_cases hlt : k < l.length
    · have hcell := hF.cell (i := k) (by omega)
      have hfz := hF.thawed k
      obtain ⟨x, hx⟩ : ∃ x, l'.getD k 0 = x := ⟨_, rfl⟩
      rw [hx] at hcell
      have NF : Hid (Buf (wr.setCell ⟨gi, k, none⟩ (.int .u8 (IntKind.u8.wrap (x + 1)))) gi 5 (l'.set k (IntKind.u8.wrap (x + 1)))) := hF.set (up_byte x)
      have NO : Hid (Only gi w5 (wr.setCell ⟨gi, k, none⟩ (.int .u8 (IntKind.u8.wrap (x + 1))))) := hO.trans (Only.set gi k _ wr)
      have LL : Hid ((l'.set k (IntKind.u8.wrap (x + 1))).length = l.length) := by show _ = _; rw [List.length_set, hll]
      clear hF hO hx hll
      go_wp2
      go_roundw
      case rel => exact ⟨k + 1, _, by omega, by go_num, LL.out, NF.out, NO.out⟩
      case measure => simp [intOf]; omega
    · obtain rfl : k = l.length := by omega
      have I6 : Hid (IsD wr w.heap.size bl (l.length / 64) (layD l)) := I5.out.only hO CG.out rfl
      have B6 : Hid (Below w.heap.size w wr) := B5.out.trans (hO.below GI.out)
      have hne : br ≠ gi := by rintro rfl; have h1 := X5.out; have h2 := CG.out; rw [h1] at h2; simp at h2
      have hxb : wr.heap[br]? = some (.cells (rboxC as0 (l.length / 64) cs none 0 0 (newD 0)) 51 (0, 0)) := by rw [hO.block br hne]; exact X5.out
      have hbw : br < wr.heap.size := (Array.getElem?_eq_some_iff.1 hxb).1
      have k0 : wr.cell? ⟨br, 0, none⟩ = some (.slice as0 (l.length / 64) cs) := cell_of_row _ _ _ _ _ _ hxb
      have z6 := B6.out.size
      have LD : Hid ((layD l).n = l.length / 64 ∧ (layD l).pend.length = 0 ∧ (layD l).down = false ∧ (layD l).ops = 0 ∧ imageL (layD l) = l) := ⟨rfl, rfl, rfl, rfl, imageL_lay H6.out⟩
      clear hF hO hll hxb hk
      obtain ⟨N, hN⟩ : ∃ N, l.length / 64 = N := ⟨_, rfl⟩
      have EN : Hid (l.length / 64 = N) := hN
      rw [hN] at k0
      clear hN
      go_wp2_with fail
      go_region_held3 (fun w' => w'.cell? ⟨br, 0, none⟩ = some (.slice as0 N cs)) (first | assumption | go_keep) (first
        | (go_at_call 28; refine (len_any w.heap.size bl _ (layD l) _ I6.out.drew).mono ?_; rw [LD.out.1, EN.out]; rintro e w' ⟨rfl, rfl⟩)
        | (go_at_call 25; refine (pending_any w.heap.size bl _ (layD l) _ I6.out.drew).mono ?_; rw [LD.out.2.1]; rintro e w' ⟨rfl, rfl⟩)
        | (go_at_call 26; refine (down_any w.heap.size bl _ (layD l) _ I6.out.drew).mono ?_; rw [LD.out.2.2.1]; rintro e w' ⟨rfl, rfl⟩)
        | (go_at_call 27; refine (ops_any w.heap.size bl _ (layD l) _ I6.out.drew).mono ?_; rw [LD.out.2.2.2.1]; rintro e w' ⟨rfl, rfl⟩)
        | (go_at_call 29; refine (image_any w.heap.size bl _ (layD l) _ I6.out.drew).mono ?_; rw [LD.out.2.2.2.2, LD.out.1, HLN.out]; rintro e w7 ⟨rfl, r7, b7⟩; have R7 : Hid (RowB w7 wr.heap.size 5 l) := r7; have B7 : Hid (Below w.heap.size w w7) := B6.out.trans ((⟨b7.os, b7.tape, b7.output, b7.size, b7.block⟩ : Below wr.heap.size wr w7).mono z6); have s7 : w7.cell? ⟨br, 0, none⟩ = some (.slice as0 N cs) := (b7.cell (p := ⟨br, 0, none⟩) hbw).trans k0; clear r7 b7)
        | (go_at_call 16; refine (same_true _ _ _ _ _ _ l _ (R7.out.isB AB.out) (HB.out.keep B7.out) rfl rfl).mono ?_; rintro e w' ⟨rfl, rfl⟩))
      go_wp2
      go_ret
      exact ⟨rfl, B7.out⟩

set_option maxRecDepth 100000 in
set_option maxHeartbeats 8000000 in
theorem makes_else_fit (n : Int) (a : Option Addr) (cap : Nat) (l : List Int) (w : World) (hn : n < 8 ∨ 65536 < n) (hB : IsB w a l) (hlen : l.length ≤ 140737488355328) (hlc : l.length ≤ cap) (hcm : cap ≤ maxLen) (h6 : l.length % 64 = 0) (h8 : 8 ≤ l.length / 64) (h9 : l.length / 64 ≤ 65536) :
    Calls Try.prog 4 #[.int .i64 n, .slice a l.length cap] w fun r w' => r = .returned (.bool true) ∧ Below w.heap.size w w' := by
  have HB : Hid (IsB w a l) := hB
  have AB : Hid (AllB l) := hB.1
  have HCM : Hid (cap ≤ maxLen) := hcm
  have H6 : Hid (l.length % 64 = 0) := h6
  have H8 : Hid (8 ≤ l.length / 64) := h8
  have H9 : Hid (l.length / 64 ≤ 65536) := h9
  have HLN : Hid (l.length / 64 * 64 = l.length) := by show _ = _; omega
  clear h6 h8 h9
  have HN : Hid (n < 8 ∨ 65536 < n) := hn
  have hcase : n < 8 ∨ (¬ n < 8 ∧ 65536 < n) := by omega
  clear hn
  clear hB hcm
  rcases hcase with hc1 | ⟨hc1, hc2⟩
  all_goals
    go_enter Try.func4, Try.ntmps4
    go_wp2_with fail
    refine (alive_any _).mono ?_
    rintro e w1 ⟨rfl, b1⟩
    have B1 : Hid (Below w.heap.size w w1) := b1
    have z1 := b1.size
    clear b1
    go_wp2_with fail
    refine (new_else n w1 HN.out).mono ?_
    rintro e w2 ⟨rfl, hw2⟩
    have B2 : Hid (Below w.heap.size w w2) := by show Below _ _ _; rw [← hw2]; exact B1.out
    have z2 := B2.out.size
    clear hw2 B1 z1
    go_wp2_with fail
    refine (copy_any a cap l.length l _ rfl (HB.out.keep B2.out) hlen).mono ?_
    rintro e w3 ⟨gi, ci, rfl, o3, b3⟩
    obtain ⟨l3, m3, _⟩ := ownsB_isL o3
    have F3 : Hid (Buf w3 gi 5 l) := Buf.ofOwns o3 AB.out
    have I3 : Hid (IsB w3 (some ⟨gi, 0, none⟩) l) := ownsB_isB AB.out o3
    have GI : Hid (w.heap.size ≤ gi) := Nat.le_trans z2 (own_ge o3 gi rfl)
    have B3 : Hid (Below w.heap.size w w3) := B2.out.trans (b3.mono z2)
    have z3 := B3.out.size
    have M3 : Hid (ci ≤ maxLen) := m3
    clear o3 b3 m3 B2 z2
    go_wp2_with fail
    refine (lay_fit w.heap.size _ ci l _ I3.out H6.out H8.out H9.out l3 M3.out z3).mono ?_
    rintro e w4 ⟨bl, rfl, i4, b4⟩
    have I4 : Hid (IsD w4 w.heap.size bl (l.length / 64) (layD l)) := i4
    have F4 : Hid (Buf w4 gi 5 l) := by
      obtain ⟨h1, cur, h2, h3⟩ := F3.out
      exact ⟨h1, cur, by rw [b4.block gi (Array.getElem?_eq_some_iff.1 h2).1]; exact h2, h3⟩
    have J4 : Hid (IsB w4 (some ⟨gi, 0, none⟩) l) := I3.out.keep b4
    have B4 : Hid (Below w.heap.size w w4) := B3.out.trans (b4.mono z3)
    have z4 := B4.out.size
    clear i4 b4 F3 I3 B3 z3
    go_wp2_with fail
    refine (rlay_fit _ cap l _ (HB.out.keep B4.out) H6.out H8.out H9.out hlc HCM.out).mono ?_
    rintro e w5 ⟨br, as0, cs, rfl, x5, b5⟩
    have X5 : Hid (w5.heap[br]? = some (.cells (rboxC as0 (l.length / 64) cs none 0 0 (newD 0)) 51 (0, 0))) := x5
    have I5 : Hid (IsD w5 w.heap.size bl (l.length / 64) (layD l)) := I4.out.keep b5
    have F5 : Hid (Buf w5 gi 5 l) := by
      obtain ⟨h1, cur, h2, h3⟩ := F4.out
      exact ⟨h1, cur, by rw [b5.block gi (Array.getElem?_eq_some_iff.1 h2).1]; exact h2, h3⟩
    have J5 : Hid (IsB w5 (some ⟨gi, 0, none⟩) l) := J4.out.keep b5
    have B5 : Hid (Below w.heap.size w w5) := B4.out.trans (b5.mono z4)
    have z5 := B5.out.size
    clear x5 b5 I4 F4 J4 B4 z4
    go_wp2_with fail
    refine (same_true _ _ _ _ _ _ l _ J5.out (HB.out.keep B5.out) rfl rfl).mono ?_
    rintro e w' ⟨rfl, rfl⟩
    obtain ⟨curg, hcurg⟩ := F5.out.block
    have CG : Hid (w5.heap[gi]? = some (.cells curg 5 (0, 0))) := hcurg
    clear hcurg
    go_wp2
    go_loopw [81] (fun iv wr => ∃ (k : Nat) (l' : List Int), k ≤ l.length ∧ iv = .int .i64 (k : Nat) ∧ l'.length = l.length ∧ Buf wr gi 5 l' ∧ Only gi w5 wr) (fun iv _ => l.length - (intOf iv).toNat)
    case atStart => exact ⟨0, l, Nat.zero_le _, rfl, rfl, F5.out, Only.refl _ _⟩
    case round =>
      obtain ⟨k, l', hk, rfl, hll, hF, hO⟩ := hrel
      rename World => wr
      by_cases hlt : k < l.length
      · have hcell := hF.cell (i := k) (by omega)
        have hfz := hF.thawed k
        obtain ⟨x, hx⟩ : ∃ x, l'.getD k 0 = x := ⟨_, rfl⟩
        rw [hx] at hcell
        have NF : Hid (Buf (wr.setCell ⟨gi, k, none⟩ (.int .u8 (IntKind.u8.wrap (x + 1)))) gi 5 (l'.set k (IntKind.u8.wrap (x + 1)))) := hF.set (up_byte x)
        have NO : Hid (Only gi w5 (wr.setCell ⟨gi, k, none⟩ (.int .u8 (IntKind.u8.wrap (x + 1))))) := hO.trans (Only.set gi k _ wr)
        have LL : Hid ((l'.set k (IntKind.u8.wrap (x + 1))).length = l.length) := by show _ = _; rw [List.length_set, hll]
        clear hF hO hx hll
        go_wp2
        go_roundw
        case rel => exact ⟨k + 1, _, by omega, by go_num, LL.out, NF.out, NO.out⟩
        case measure => simp [intOf]; omega
      · obtain rfl : k = l.length := by omega
        have I6 : Hid (IsD wr w.heap.size bl (l.length / 64) (layD l)) := I5.out.only hO CG.out rfl
        have B6 : Hid (Below w.heap.size w wr) := B5.out.trans (hO.below GI.out)
        have hne : br ≠ gi := by rintro rfl; have h1 := X5.out; have h2 := CG.out; rw [h1] at h2; simp at h2
        have hxb : wr.heap[br]? = some (.cells (rboxC as0 (l.length / 64) cs none 0 0 (newD 0)) 51 (0, 0)) := by rw [hO.block br hne]; exact X5.out
        have hbw : br < wr.heap.size := (Array.getElem?_eq_some_iff.1 hxb).1
        have k0 : wr.cell? ⟨br, 0, none⟩ = some (.slice as0 (l.length / 64) cs) := cell_of_row _ _ _ _ _ _ hxb
        have z6 := B6.out.size
        have LD : Hid ((layD l).n = l.length / 64 ∧ (layD l).pend.length = 0 ∧ (layD l).down = false ∧ (layD l).ops = 0 ∧ imageL (layD l) = l) := ⟨rfl, rfl, rfl, rfl, imageL_lay H6.out⟩
        clear hF hO hll hxb hk
        obtain ⟨N, hN⟩ : ∃ N, l.length / 64 = N := ⟨_, rfl⟩
        have EN : Hid (l.length / 64 = N) := hN
        rw [hN] at k0
        clear hN
        go_wp2_with fail
        go_region_held3 (fun w' => w'.cell? ⟨br, 0, none⟩ = some (.slice as0 N cs)) (first | assumption | go_keep) (first
          | (go_at_call 28; refine (len_any w.heap.size bl _ (layD l) _ I6.out.drew).mono ?_; rw [LD.out.1, EN.out]; rintro e w' ⟨rfl, rfl⟩)
          | (go_at_call 25; refine (pending_any w.heap.size bl _ (layD l) _ I6.out.drew).mono ?_; rw [LD.out.2.1]; rintro e w' ⟨rfl, rfl⟩)
          | (go_at_call 26; refine (down_any w.heap.size bl _ (layD l) _ I6.out.drew).mono ?_; rw [LD.out.2.2.1]; rintro e w' ⟨rfl, rfl⟩)
          | (go_at_call 27; refine (ops_any w.heap.size bl _ (layD l) _ I6.out.drew).mono ?_; rw [LD.out.2.2.2.1]; rintro e w' ⟨rfl, rfl⟩)
          | (go_at_call 29; refine (image_any w.heap.size bl _ (layD l) _ I6.out.drew).mono ?_; rw [LD.out.2.2.2.2, LD.out.1, HLN.out]; rintro e w7 ⟨rfl, r7, b7⟩; have R7 : Hid (RowB w7 wr.heap.size 5 l) := r7; have B7 : Hid (Below w.heap.size w w7) := B6.out.trans ((⟨b7.os, b7.tape, b7.output, b7.size, b7.block⟩ : Below wr.heap.size wr w7).mono z6); have s7 : w7.cell? ⟨br, 0, none⟩ = some (.slice as0 N cs) := (b7.cell (p := ⟨br, 0, none⟩) hbw).trans k0; clear r7 b7)
          | (go_at_call 16; refine (same_true _ _ _ _ _ _ l _ (R7.out.isB AB.out) (HB.out.keep B7.out) rfl rfl).mono ?_; rintro e w' ⟨rfl, rfl⟩))
        go_wp2
        go_ret
        exact ⟨rfl, B7.out⟩

theorem diskMakes_any (n : Int) (a : Option Addr) (cap : Nat) (l : List Int) (w : World) (hB : IsB w a l) (hlen : l.length ≤ 140737488355328) (hlc : l.length ≤ cap) (hcm : cap ≤ maxLen) :
    Calls Try.prog 4 #[.int .i64 n, .slice a l.length cap] w fun r w' => r = .returned (.bool true) ∧ Below w.heap.size w w' := by
  have hml : l.length ≤ maxLen := Nat.le_trans hlc hcm
  by_cases h6 : l.length % 64 = 0
  · by_cases h8 : 8 ≤ l.length / 64 ∧ l.length / 64 ≤ 65536
    · by_cases hn : 8 ≤ n ∧ n ≤ 65536
      · obtain ⟨k, rfl⟩ : ∃ k : Nat, n = k := ⟨n.toNat, by omega⟩
        exact makes_fit_fit k a cap l w (by omega) (by omega) hB hlen hlc hcm h6 h8.1 h8.2
      · exact makes_else_fit n a cap l w (by omega) hB hlen hlc hcm h6 h8.1 h8.2
    · have hb : ∀ (a : Option Addr) (cap : Nat) (w : World), _ := fun a cap w => And.intro (lay_few a l.length cap w h6 hml (by omega)) (rlay_few a l.length cap w h6 hml (by omega))
      by_cases hn : 8 ≤ n ∧ n ≤ 65536
      · obtain ⟨k, rfl⟩ : ∃ k : Nat, n = k := ⟨n.toNat, by omega⟩
        exact makes_fit_bad k a cap l w (by omega) (by omega) hB hlen hlc hcm hb
      · exact makes_else_bad n a cap l w (by omega) hB hlen hlc hcm hb
  · have hb : ∀ (a : Option Addr) (cap : Nat) (w : World), _ := fun a cap w => And.intro (lay_odd a l.length cap w h6 hml) (rlay_odd a l.length cap w h6 hml)
    by_cases hn : 8 ≤ n ∧ n ≤ 65536
    · obtain ⟨k, rfl⟩ : ∃ k : Nat, n = k := ⟨n.toNat, by omega⟩
      exact makes_fit_bad k a cap l w (by omega) (by omega) hB hlen hlc hcm hb
    · exact makes_else_bad n a cap l w (by omega) hB hlen hlc hcm hb
end Go.Proofs.Ytddkmmkhlfjhiaa
