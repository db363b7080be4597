/- Bytes made and copied, words and good bases: memory and contracts, the code's and the document's -/
import Derived.Test.YthlnljabbnhfkaaKdD
import Derived.Test.YthlnljabbnhfkaaKdG
import Derived.Test.YthlnljabbnhfkaaKdH
import Derived.Test.YthlnljabbnhfkaaKdI
import Derived.Lib.BitFns
namespace Go.Proofs.Ythlnljabbnhfkaa
open Go.RowKit
set_option linter.unusedVariables false

theorem AllB.zeros (n : Nat) : AllB (List.replicate n 0) := fun x hx => by rw [List.eq_of_mem_replicate hx]; omega
theorem AllB.at {a : List Int} (h : AllB a) (i : Nat) : 0 ≤ a.getD i 0 ∧ a.getD i 0 ≤ 255 := by
  by_cases hi : i < a.length
  · have := h a[i] (List.getElem_mem hi)
    simpa [List.getD, hi] using this
  · simp [List.getD, List.getElem?_eq_none (Nat.le_of_not_lt hi)]
/-- So many bytes, from this place on, lie among n. -/
def inR (n : Nat) (o k : Int) : Prop := 0 ≤ k ∧ 0 ≤ o ∧ o + k ≤ (n : Int)
instance (n : Nat) (o k : Int) : Decidable (inR n o k) := by unfold inR; infer_instance
/-- What lies there behind bytes laid over it. -/
def overR (l : List Int) (o : Nat) (b : List Int) : List Int := l.take o ++ b ++ l.drop (o + b.length)
def zeroR (l : List Int) (o k : Int) : List Int := if inR l.length o k then overR l o.toNat (List.replicate k.toNat 0) else l
theorem overR_len {l : List Int} {o : Nat} {b : List Int} (h : o + b.length ≤ l.length) : (overR l o b).length = l.length := by
  unfold overR; simp; omega
theorem AllB.over {l b : List Int} (h : AllB l) (hb : AllB b) (o : Nat) : AllB (overR l o b) := ((h.take _).append hb).append (h.drop _)
theorem AllB.zero {l : List Int} (h : AllB l) (o k : Int) : AllB (zeroR l o k) := by
  unfold zeroR; split
  · exact h.over (AllB.zeros _) _
  · exact h
/-- A part of a row. -/
theorem RowB.part {w : World} {g : Nat} {l : List Int} (h : RowB w g l) (hb : AllB l) (o k : Nat) (a : Option Addr) (hf : o + k ≤ l.length) (ha : k = 0 ∨ a = some ⟨g, o, none⟩) : IsB w a ((l.drop o).take k) := by
  refine ⟨(hb.drop o).take k, ?_⟩
  rcases ha with rfl | rfl
  · left; simp
  · refine .inr ⟨g, o, rfl, h.lt, fun i hi => ?_⟩
    simp at hi
    rw [h.cell (o + i) (by omega)]
    simp [List.getD_eq_getElem?_getD, List.getElem?_drop, show i < k by omega]
/-! ### make -/
theorem made_B (n : Nat) : madeCells #[.int .u8 0] n = (cellsB (List.replicate n 0)).toArray := by
  apply Array.ext'
  simp [madeCells, cellsB]
  apply List.ext_getElem
  · simp
  · intro i h1 h2; simp [Nat.mod_one]
theorem make_B (w : World) (n : Nat) (hn : n ≤ 1000000000) : (Instr.makeSlice 23 (.int .i64 (n : Nat)) (.int .i64 (n : Nat))).run Try.prog w = .ok (.slice (some ⟨w.heap.size, 0, none⟩) n n) (w.alloc (.cells (cellsB (List.replicate n 0)).toArray 5)) := by
  obtain ⟨i0, hi0, hz0, hs0, hb0⟩ := info_parts Try.info5
  have h := run_make (P := Try.prog) w 23 5 i0 _ Try.underlying23 hi0 hz0 .i64 .i64 (n : Int) (n : Int) (by omega) (Int.le_refl _) (by rw [hb0]; omega) (by omega)
  rw [h, hs0]
  simp only [Int.toNat_natCast, Value.cells, Nat.mul_one, made_B]
/-! ### copy -/
theorem copy_run (w : World) (g o dl dc : Nat) (cur l : List Int) (ad a : Option Addr) (n cap k : Nat) (hn : n = l.length) (hk : k = min n dl) (hg : RowB w g cur) (hB : IsB w a l) (hfit : o + k ≤ cur.length) (had : k = 0 ∨ ad = some ⟨g, o, none⟩) :
    ∃ w1, (∀ ty, (Builtin.copy_ #[23, 23] ty #[.slice ad dl dc, .slice a n cap]).run Try.prog w = .ok (goInt k) w1) ∧ RowB w1 g (cur.take o ++ l.take k ++ cur.drop (o + k)) ∧ Only g w w1 := by
  subst hn
  by_cases h0 : k = 0
  · have hrun := fun ty => run_copy_none (P := Try.prog) w 23 23 ty 5 ad a dl dc l.length cap Try.underlying23 size1 (hk.symm.trans h0)
    subst h0
    exact ⟨w, hrun, by simpa using hg, Only.refl _ _⟩
  · obtain rfl : ad = some ⟨g, o, none⟩ := by rcases had with h | h; exact absurd h h0; exact h
    obtain ⟨_, rfl | ⟨b, off, rfl, hs, hc⟩⟩ := hB
    · simp at hk; omega
    · have hl : (cellsB (l.take k)).length = k := by rw [cellsB_len, List.length_take]; omega
      have hrun := fun ty => run_copy_row (P := Try.prog) w 23 23 ty 5 g o dl dc ⟨b, off, none⟩ l.length cap (cellsB cur).toArray 5 (cellsB (l.take k)) Try.underlying23 size1 hg (hl.trans hk) (by
        intro j v hv
        have hj : j < k := by rw [← hl]; exact (List.getElem?_eq_some_iff.1 hv).1
        rw [addr_add, hc j (by omega), ← hv, cellsB_at _ j (by rw [List.length_take]; omega)]
        rw [List.getD_eq_getElem?_getD, List.getD_eq_getElem?_getD, List.getElem?_take, if_pos hj]) (by rw [hl]; simpa [cellsB_len] using hfit) (cellsB_one _)
      refine ⟨_, fun ty => by rw [hrun ty, hl], ?_, Only.setRow _ _ _⟩
      have := setRow_heap w g _ ((cellsB cur).take o ++ cellsB (l.take k) ++ (cellsB cur).drop (o + k)).toArray 5 _ hg
      show (w.setRow g _).heap[g]? = _
      rw [show (cellsB cur).toArray.toList = cellsB cur from rfl, this]
      simp [cellsB]
theorem wpList_copyB {ops : Array Oper} {rest : List Oper} {o : Oper} {a : Act} {Q : Exit → Act → World → Prop} {w : World} (hgd : o.guard = none) (s x : Operand)
    (ho : o.op = .call { callee := .builtin .copy, args := #[s, x], argTypes := #[23, 23] })
    (g off dl dc : Nat) (cur l : List Int) (ad ax : Option Addr) (n cap k : Nat) (hs : a.eval s = .slice ad dl dc) (hx : a.eval x = .slice ax n cap) (hn : n = l.length) (hk : k = min n dl) (hg : RowB w g cur) (hB : IsB w ax l) (hfit : off + k ≤ cur.length) (had : k = 0 ∨ ad = some ⟨g, off, none⟩)
    (h : ∀ w1, RowB w1 g (cur.take off ++ l.take k ++ cur.drop (off + k)) → Only g w w1 → wpList Try.prog ops Q rest (a.put o.dst (goInt k)) w1) : wpList Try.prog ops Q (o :: rest) a w := by
  refine wpList_plain hgd fun K' hK' => ?_
  obtain ⟨w1, hrun, r1, r2⟩ := copy_run w g off dl dc cur l ad ax n cap k hn hk hg hB hfit had
  unfold Oper.wp
  simp [execOp, ho, resolve, invoke, builtin, hs, hx, hrun, Result.andThen]
  exact hK' _ _ (h w1 r1 r2)
/-- There is nothing to copy into. -/
theorem wpList_copy0 {ops : Array Oper} {rest : List Oper} {o : Oper} {a : Act} {Q : Exit → Act → World → Prop} {w : World} (hgd : o.guard = none) (s x : Operand)
    (ho : o.op = .call { callee := .builtin .copy, args := #[s, x], argTypes := #[23, 23] })
    (dl dc n cap : Nat) (ad ax : Option Addr) (hs : a.eval s = .slice ad dl dc) (hx : a.eval x = .slice ax n cap) (hk : Nat.min n dl = 0)
    (h : wpList Try.prog ops Q rest (a.put o.dst (goInt 0)) w) : wpList Try.prog ops Q (o :: rest) a w := by
  refine wpList_plain hgd fun K' hK' => ?_
  have hrun := run_copy_none (P := Try.prog) w 23 23 o.type 5 ad ax dl dc n cap Try.underlying23 size1 hk
  unfold Oper.wp
  simp [execOp, ho, resolve, invoke, builtin, hs, hx, hrun, Result.andThen]
  exact hK' _ _ h

theorem within_any (n : Int) (w : World) :
    Calls Try.prog 39 #[.int .i64 n] w fun e w' => e = .returned (.int .i64 (clampW n)) ∧ w = w' := by
  go_enter Try.func39, Try.ntmps39
  go_wp2
  all_goals (go_ret; refine ⟨congrArg Ending.returned (congrArg (Value.int IntKind.i64) ?_), rfl⟩; unfold clampW; split <;> (try split) <;> omega)
theorem get_any (a : Option Addr) (cap : Nat) (l : List Int) (w : World) (h : IsB w a l) (hm : l.length ≤ maxLen) :
    Calls Try.prog 25 #[.slice a l.length cap] w fun e w' => e = .returned (.int .u64 (getL (l.take 8))) ∧ w = w' := by
  obtain ⟨hb, rfl | ⟨b, off, rfl, hsz, hc⟩⟩ := h
  · go_enter Try.func25, Try.ntmps25
    go_wp2
    refine wp_loop_rounds 1 ?_
    rw [rounds_succ]
    go_wp2
    go_ret
    exact ⟨rfl, rfl⟩
  · unfold maxLen at hm
    go_enter Try.func25, Try.ntmps25
    go_wp2
    all_goals
      go_loop [3, 8] (fun n i => ∃ k : Nat, k ≤ 8 ∧ k ≤ l.length ∧ i = .int .i64 k ∧ n = .int .u64 (getL (l.take k))) (fun _ i => 8 - (intOf i).toNat)
      case atStart => exact ⟨0, Nat.zero_le _, Nat.zero_le _, rfl, rfl⟩
      case round =>
        obtain ⟨k, hk8, hkl, rfl, rfl⟩ := hrel
        by_cases hlt : k < 8 ∧ k < l.length
        · obtain ⟨h8, hl⟩ := hlt
          have hcell := hc k hl
          have HG : Hid (bits BinOp.or IntKind.u64 (getL (l.take k)) (IntKind.u64.wrap (IntKind.u64.wrap l[k] * 2 ^ (8 * k))) = getL (l.take (k + 1))) := get_step l k hb h8 hl
          go_wp2
          go_round
          case rel => exact ⟨k + 1, by omega, by omega, by go_num, by rw [HG.out]⟩
          case measure => simp [intOf]; omega
        · have e8 : l.take 8 = l.take k := take_same l k hk8 hkl hlt
          have E8 : Hid (l.take 8 = l.take k) := e8
          clear e8
          go_wp2
          go_ret
          exact ⟨ret_int (by rw [E8.out]), rfl⟩
/-- Get, its length and what it answers told apart. -/
theorem get_of (a : Option Addr) (cap n : Nat) (l : List Int) (v : Int) (w : World) (hn : n = l.length) (hv : getL (l.take 8) = v) (h : IsB w a l) (hm : l.length ≤ maxLen) :
    Calls Try.prog 25 #[.slice a n cap] w fun e w' => e = .returned (.int .u64 v) ∧ w = w' := by
  subst hn hv; exact get_any a cap l w h hm
set_option maxHeartbeats 1000000 in
theorem put8 (n width : Int) (hK : clampW width = 8) (_h0 : 0 ≤ n) (_h1 : n ≤ 18446744073709551615) (w : World) :
    Calls Try.prog 26 #[.int .u64 n, .int .i64 width] w fun e w' => e = .returned (.slice (some ⟨w.heap.size, 0, none⟩) 8 8) ∧ w' = w.alloc (.cells #[.int .u8 (n % 256), .int .u8 (n / 256 % 256), .int .u8 (n / 65536 % 256), .int .u8 (n / 16777216 % 256), .int .u8 (n / 4294967296 % 256), .int .u8 (n / 1099511627776 % 256), .int .u8 (n / 281474976710656 % 256), .int .u8 (n / 72057594037927936 % 256)] 5) := by
  have hmk : ∀ w : World, (Instr.makeSlice 23 (.int .i64 8) (.int .i64 8)).run Try.prog w = .ok (.slice (some ⟨w.heap.size, 0, none⟩) 8 8) (w.alloc (.cells #[.int .u8 0, .int .u8 0, .int .u8 0, .int .u8 0, .int .u8 0, .int .u8 0, .int .u8 0, .int .u8 0] 5)) := fun _ => by kernel_rfl
  go_enter Try.func26, Try.ntmps26
  go_wp2_with (go_at_call 39; refine (within_any width _).mono ?_; rintro e w' ⟨rfl, rfl⟩; rw [hK])
  go_ret
  exact ⟨rfl, by rw [show n / 72057594037927936 % 256 = n / 72057594037927936 from by omega]⟩
theorem div_steps (n : Int) : n / 256 / 256 = n / 65536 ∧ n / 65536 / 256 = n / 16777216 ∧ n / 16777216 / 256 = n / 4294967296 ∧ n / 4294967296 / 256 = n / 1099511627776 ∧ n / 1099511627776 / 256 = n / 281474976710656 ∧ n / 281474976710656 / 256 = n / 72057594037927936 := by omega
theorem put_word (n : Int) (h0 : 0 ≤ n) (h1 : n ≤ 18446744073709551615) (w : World) :
    Calls Try.prog 26 #[.int .u64 n, .int .i64 8] w fun e w' => e = .returned (.slice (some ⟨w.heap.size, 0, none⟩) 8 8) ∧ RowB w' w.heap.size (putL 8 n) ∧ Below w.heap.size w w' := by
  obtain ⟨d2, d3, d4, d5, d6, d7⟩ := div_steps n
  refine (put8 n 8 rfl h0 h1 w).mono ?_
  rintro e w' ⟨rfl, rfl⟩
  refine ⟨rfl, ?_, (Below.refl _ w).alloc (Nat.le_refl _) _⟩
  have := Go.heap_alloc_new w (.cells ((putL 8 n).map (Value.int .u8)).toArray 5)
  simp only [putL, d2, d3, d4, d5, d6, d7, List.map_cons, List.map_nil] at this
  show _ = _
  simp only [cellsB, putL, d2, d3, d4, d5, d6, d7, List.map_cons, List.map_nil]
  exact this
theorem width_any (n : Int) (w : World) :
    Calls Try.prog 46 #[.int .i64 n] w fun e w' => e = .returned (.int .i64 (clampW n)) ∧ w = w' := by
  go_enter Try.func46, Try.ntmps46
  go_wp2
  all_goals (go_ret; refine ⟨congrArg Ending.returned (congrArg (Value.int IntKind.i64) ?_), rfl⟩; unfold clampW; split <;> (try split) <;> omega)
theorem rget_step (l : List Int) (k : Nat) (hk : k < (l.take 8).length) : getL ((l.take 8).drop (k + 1)) * 256 + (l.take 8)[k] = getL ((l.take 8).drop k) := by
  rw [List.drop_eq_getElem_cons hk, getL]
  omega
theorem rget_bd (l : List Int) (k : Nat) (hb : ∀ x ∈ l, 0 ≤ x ∧ x ≤ 255) : 0 ≤ getL ((l.take 8).drop (k + 1)) ∧ getL ((l.take 8).drop (k + 1)) ≤ 72057594037927935 := by
  have hb' : ∀ x ∈ (l.take 8).drop (k + 1), 0 ≤ x ∧ x ≤ 255 := fun x hx => hb x (List.mem_of_mem_take (List.mem_of_mem_drop hx))
  refine ⟨getL_nonneg _ hb', ?_⟩
  have h1 := getL_lt _ hb'
  have h2 : ((l.take 8).drop (k + 1)).length ≤ 7 := by rw [List.length_drop]; have := List.length_take_le 8 l; omega
  have h3 := p256_mono _ _ h2
  have h4 : (256 : Int) ^ 7 = 72057594037927936 := by decide
  omega
set_option maxHeartbeats 1000000 in
theorem rget_any (a : Option Addr) (cap : Nat) (l : List Int) (w : World) (h : IsB w a l) (hm : l.length ≤ maxLen) :
    Calls Try.prog 37 #[.slice a l.length cap] w fun e w' => e = .returned (.int .u64 (getL (l.take 8))) ∧ w = w' := by
  obtain ⟨hb, rfl | ⟨b, off, rfl, hsz, hc⟩⟩ := h
  · go_enter Try.func37, Try.ntmps37
    go_wp2
    refine wp_loop_rounds 1 ?_
    rw [rounds_succ]
    go_wp2
    go_ret
    exact ⟨rfl, rfl⟩
  · unfold maxLen at hm
    have h8 : (l.take 8).length ≤ 8 := List.length_take_le 8 l
    have hl8 : (l.take 8).length ≤ l.length := by rw [List.length_take]; omega
    have E8 : Hid ((l.take 8).length = min 8 l.length) := List.length_take
    go_enter Try.func37, Try.ntmps37
    go_wp2
    all_goals
      go_loop [3, 4] (fun n i => ∃ k : Nat, k ≤ (l.take 8).length ∧ i = .int .i64 ((k : Int) - 1) ∧ n = .int .u64 (getL ((l.take 8).drop k))) (fun _ i => (intOf i + 1).toNat)
      case atStart =>
        refine ⟨(l.take 8).length, Nat.le_refl _, ?_, ?_⟩
        · refine congrArg (Value.int IntKind.i64) ?_
          rw [E8.out]
          omega
        · rw [List.drop_length]; rfl
      case round =>
        obtain ⟨k, hk, rfl, rfl⟩ := hrel
        rcases k with _ | k
        · go_wp2
          go_ret
          exact ⟨rfl, rfl⟩
        · have hkl : k < (l.take 8).length := hk
          have hkl' : k < l.length := by omega
          have hst : Hid (getL ((l.take 8).drop (k + 1)) * 256 + (l.take 8)[k] = getL ((l.take 8).drop k)) := rget_step l k hkl
          obtain ⟨n0, n1⟩ := rget_bd l k hb
          have hx := hb l[k] (List.getElem_mem hkl')
          have hcell := hc k hkl'
          have ek : ((k + 1 : Nat) : Int) - 1 = (k : Int) := by omega
          rw [ek]
          generalize hN : getL ((l.take 8).drop (k + 1)) = N at *
          go_wp2
          go_round
          case rel => exact ⟨k, by omega, rfl, congrArg (Value.int IntKind.u64) (by rw [← hst.out]; simp)⟩
          case measure => simp [intOf]
def lenOf : Value → Nat
  | .slice _ k _ => k
  | _ => 0
/-- How far the bytes have come. -/
def PutAt (n : Int) (K B : Nat) (w wr : World) (a : Option Addr) (cap : Nat) (L : List Int) (m : Int) : Prop :=
  L.length ≤ K ∧ putL K n = L ++ putL (K - L.length) m ∧ 0 ≤ m ∧ m ≤ 18446744073709551615 ∧ OwnsB wr B a L cap ∧ Below B w wr
set_option maxHeartbeats 1000000 in
theorem rput_is (n width : Int) (K : Nat) (hK : clampW width = K) (hK8 : K ≤ 8) (h0 : 0 ≤ n) (h1 : n ≤ 18446744073709551615) (w : World) :
    Calls Try.prog 38 #[.int .u64 n, .int .i64 width] w fun e w' => ∃ a cap, e = .returned (.slice a K cap) ∧ IsB w' a (putL K n) ∧ (∀ ad, a = some ad → w.heap.size ≤ ad.block) ∧ Below w.heap.size w w' := by
  obtain ⟨i0, hi, hz0, hz1, hz2⟩ := info_parts Try.info5
  have HK : Hid (clampW width = K) := hK
  clear hK
  go_enter Try.func38, Try.ntmps38
  go_wp2
  go_loopw [0, 5] (fun t v wr => ∃ (a : Option Addr) (cap : Nat) (L : List Int) (m : Int), t = .int .u64 m ∧ v = .slice a L.length cap ∧ PutAt n K w.heap.size w wr a cap L m) (fun _ v _ => 8 - lenOf v)
  case atStart => exact ⟨none, 0, [], n, rfl, rfl, Nat.zero_le _, rfl, h0, h1, World.ownsRow_nil _ _ _ _, Below.refl _ _⟩
  case round =>
    obtain ⟨a, cap, L, m, rfl, rfl, hL, hx, m0, m1, hown, hnx⟩ := hrel
    have HX : Hid (putL K n = L ++ putL (K - L.length) m) := hx
    clear hx
    by_cases hlt : L.length < K
    · go_wp2_with (first
        | (go_at_call 46; refine (width_any width _).mono ?_; rintro e w' ⟨rfl, rfl⟩; rw [HK.out])
        | (at_builtin; refine wpList_append_own _ rfl (.tmp 11) (.tmp 15) 23 rfl w.heap.size 5 i0 (.int .u8 0) 1 1 Try.underlying23 hi hz0 hz1 hz2 rfl (by decide) (.slice a L.length cap) L.length _ rfl (World.ownsRow.alloc hown _) ⟨wr.heap.size, 0, none⟩ 1 1 [.int .u8 (m % 256)] rfl rfl (by intro t u ht; match t, ht with | 0, ht => simp at ht; subst ht; simp [Addr.add]) (by intro u hu; simp at hu; subst hu; rfl) (by unfold maxLen; omega) (by omega) (by have := hnx.size; simp; omega) ?_; intro v1 w1 hown1 hgrow1 hnil1))
      obtain ⟨a1, cap1, rfl⟩ := owns_form hown1
      have hp : putL (K - L.length) m = m % 256 :: putL (K - (L.length + 1)) (m / 256) := by
        rw [show K - L.length = (K - (L.length + 1)) + 1 from by omega, putL]
      have R : PutAt n K w.heap.size w w1 a1 cap1 (L ++ [m % 256]) (m / 256) :=
        ⟨by simp; omega, by rw [HX.out, hp]; simp, by omega, by omega, by simpa [OwnsB] using hown1, (hnx.alloc hnx.size _).grown hgrow1 (by simp; have := hnx.size; omega) (own_ge hown)⟩
      go_roundw
      case rel => exact ⟨a1, cap1, L ++ [m % 256], m / 256, rfl, by simp, R⟩
      case measure => simp [lenOf]; omega
    · have hx : putL K n = L := by rw [HX.out, show K - L.length = 0 from by omega]; simp [putL]
      have hlen : L.length = K := by omega
      have HQ : Hid (putL K n = L) := hx
      clear hx
      go_wp2_with (go_at_call 46; refine (width_any width _).mono ?_; rintro e w' ⟨rfl, rfl⟩; rw [HK.out])
      go_ret
      refine ⟨a, cap, rfl, ?_, (fun ad e => by cases e; exact own_ge hown _ rfl), hnx⟩
      rw [HQ.out]
      exact ownsB_isB (by rw [← HQ.out]; exact putL_byte K n) hown
/-- A base that may be. -/
def goodR (x : Int) : Prop := 256 ≤ x ∧ x ≤ 1099511627776 ∧ x % 256 = 0
instance (x : Int) : Decidable (goodR x) := by unfold goodR; infer_instance
theorem good_any (x : Int) (w : World) : Calls Try.prog 34 #[.int .i64 x] w fun e w' => e = .returned (.bool (decide (goodR x))) ∧ w = w' := by
  by_cases a1 : x < 256
  · rw [decide_eq_false (p := goodR x) (by unfold goodR; omega)]
    go_enter Try.func34, Try.ntmps34
    go_wp2
    go_ret
    exact ⟨rfl, rfl⟩
  · by_cases a2 : 1099511627776 < x
    · rw [decide_eq_false (p := goodR x) (by unfold goodR; omega)]
      go_enter Try.func34, Try.ntmps34
      go_wp2
      go_ret
      exact ⟨rfl, rfl⟩
    · have n0 : 0 ≤ x := by omega
      have n2 : x ≤ 1099511627776 := by omega
      by_cases a3 : x % 256 = 0
      · rw [decide_eq_true (p := goodR x) (by unfold goodR; omega)]
        go_enter Try.func34, Try.ntmps34
        go_wp2
        go_ret
        exact ⟨rfl, rfl⟩
      · rw [decide_eq_false (p := goodR x) (by unfold goodR; omega)]
        go_enter Try.func34, Try.ntmps34
        go_wp2
        go_ret
        exact ⟨ret_bool (beq_eq_false_iff_ne.2 a3), rfl⟩
theorem good_of (x : Int) (v : Bool) (w : World) (hv : decide (goodR x) = v) : Calls Try.prog 34 #[.int .i64 x] w fun e w' => e = .returned (.bool v) ∧ w = w' := by
  subst hv; exact good_any x w
theorem rgood_any (x : Int) (w : World) : Calls Try.prog 36 #[.int .i64 x] w fun e w' => e = .returned (.bool (decide (goodR x))) ∧ w = w' := by
  by_cases a1 : x < 256
  · rw [decide_eq_false (p := goodR x) (by unfold goodR; omega)]
    go_enter Try.func36, Try.ntmps36
    go_wp2
    go_ret
    exact ⟨rfl, rfl⟩
  · by_cases a2 : 1099511627776 < x
    · rw [decide_eq_false (p := goodR x) (by unfold goodR; omega)]
      go_enter Try.func36, Try.ntmps36
      go_wp2
      go_ret
      exact ⟨rfl, rfl⟩
    · have n0 : 0 ≤ x := by omega
      have n2 : x ≤ 1099511627776 := by omega
      by_cases a3 : x % 256 = 0
      · rw [decide_eq_true (p := goodR x) (by unfold goodR; omega)]
        go_enter Try.func36, Try.ntmps36
        go_wp2
        go_ret
        exact ⟨rfl, rfl⟩
      · rw [decide_eq_false (p := goodR x) (by unfold goodR; omega)]
        go_enter Try.func36, Try.ntmps36
        go_wp2
        go_ret
        exact ⟨ret_bool (beq_eq_false_iff_ne.2 a3), rfl⟩
theorem rgood_of (x : Int) (v : Bool) (w : World) (hv : decide (goodR x) = v) : Calls Try.prog 36 #[.int .i64 x] w fun e w' => e = .returned (.bool v) ∧ w = w' := by
  subst hv; exact rgood_any x w
end Go.Proofs.Ythlnljabbnhfkaa
