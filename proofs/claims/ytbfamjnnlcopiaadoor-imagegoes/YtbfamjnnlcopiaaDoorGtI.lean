/- Layer 17: KdA again -/
import Derived.Test.YtbfamjnnlcopiaaDoorAuB
import Derived.Test.YtbfamjnnlcopiaaDoorMhA
import Derived.Test.YtbfamjnnlcopiaaDoorGtA
import Derived.Test.YtbfamjnnlcopiaaDoorRows
import Derived.WalkKit
import Derived.WalkLawsBesides
import Derived.Below
import Derived.ProofKit
import Derived.OpenShut
import Derived.ChangeOld
import Derived.SizedLaws
import Derived.OwnWalk
import Derived.WalkSmall
import Derived.Laws.AppendOwnNone
import Derived.Laws.IdiomStrings
import Derived.Laws.IdiomCopy
import Derived.Laws.CopyRow
import Derived.Laws.MakeOwn
import Derived.Deep.MidRow
import Derived.Deep.WholeRow
import Derived.Deep.OwnRows
import Derived.Deep.RegionHeld3
import Derived.Lib.SlBytesConst
import Derived.BigQuiet
namespace Go.Proofs.YtbfamjnnlcopiaaDoor
open Go.RowKit
set_option linter.unusedVariables false
set_option maxRecDepth 4000
theorem Tg.ofDrewN {g m : Nat} {w w' : World} (h : Tg g (w.drewN m) w') : Tg g w w' := ⟨h.os, h.tape, h.output, h.size, h.block⟩
theorem Tg.ofDrew {g : Nat} {w w' : World} (h : Tg g w.drew w') : Tg g w w' := ⟨h.os, h.tape, h.output, h.size, h.block⟩
theorem Below.ofDrewNR {B m : Nat} {w w' : World} (h : Below B (w.drewN m) w') : Below B w w' := ⟨h.os, h.tape, h.output, h.size, h.block⟩
theorem rowns_form {w : World} {base n : Nat} {v : Value} {xs : List Value} (h : w.ownsRow base 5 1 v n xs) : ∃ a cap, v = .slice a n cap := by
  obtain ⟨_, ⟨rfl, rfl⟩ | ⟨g, c', cur, rfl, _⟩⟩ := h
  · exact ⟨_, _, rfl⟩
  · exact ⟨_, _, rfl⟩
/-- Bytes are appended to a slice of the call's own, whatever they are: none, or some. -/
theorem rwpList_app {ops : Array Oper} {rest : List Oper} {o : Oper} {a : Act} {Q : Exit → Act → World → Prop} {w : World} (hgd : o.guard = none) (s x : Operand)
    (ho : o.op = .call { callee := .builtin .append, args := #[s, x], argTypes := #[25, 25] })
    (base : Nat) (hbase : base ≤ w.heap.size) (as0 : Option Addr) (L : List Int) (cs : Nat) (hs : a.eval s = .slice as0 L.length cs) (hown : OwnsB w base as0 L cs)
    (ax : Option Addr) (l : List Int) (cx : Nat) (hx : a.eval x = .slice ax l.length cx) (hB : IsB w ax l) (hnil : ax = none → l = [] ∧ cx = 0) (hlen : L.length + l.length ≤ 140737488355328)
    (h : ∀ a' cap' w', OwnsB w' base a' (L ++ l) cap' → Below base w w' → wpList Tryd.prog ops Q rest (a.put o.dst (.slice a' (L ++ l).length cap')) w') :
    wpList Tryd.prog ops Q (o :: rest) a w := by
  obtain ⟨i0, hi, hz0, hz1, hz2⟩ := info_parts Tryd.info5
  rcases ax with _ | ad
  · obtain ⟨rfl, rfl⟩ := hnil rfl
    refine wpList_append_own_none hgd s x 25 ho base 5 i0 1 Tryd.underlying25 hi _ _ _ hs hown hx ?_
    have := h as0 cs w (by simpa using hown) (Below.refl _ _)
    simpa using this
  · refine wpList_append_own w hgd s x 25 ho base 5 i0 (.int .u8 0) 1 1 Tryd.underlying25 hi hz0 hz1 hz2 rfl (by decide) _ _ _ hs hown ad l.length cx (l.map (Value.int .u8)) hx (by simp) ?_ ?_ (by unfold maxLen; omega) (by omega) hbase ?_
    · intro j u hj
      have hjn : j < l.length := by
        have := (List.getElem?_eq_some_iff.1 hj).1
        simpa using this
      obtain ⟨_, rfl | ⟨b, off, e, _, hc⟩⟩ := hB
      · simp at hjn
      · cases e
        rw [addr_add, hc j hjn]
        have e : (l.map (Value.int .u8))[j]? = some (Value.int .u8 (l.getD j 0)) := by simp [List.getD, List.getElem?_eq_getElem hjn]
        rw [e] at hj
        exact hj
    · intro u hu; obtain ⟨x, _, rfl⟩ := List.mem_map.1 hu; rfl
    · intro v' w' h1 h2 h3
      obtain ⟨a', cap', rfl⟩ := rowns_form h1
      have := h a' cap' w' (by simpa [OwnsB] using h1) ((Below.refl _ w).grown h2 hbase (own_ge hown))
      simpa using this
theorem rownsB_isL {w : World} {base : Nat} {a : Option Addr} {l : List Int} {cap : Nat} (h : OwnsB w base a l cap) : l.length ≤ cap ∧ cap ≤ maxLen ∧ (a = none → l = [] ∧ cap = 0) := by
  obtain ⟨_, ⟨h1, h2⟩ | ⟨g, c', cur, h1, hg, h2, h3, h4, _⟩⟩ := h
  · simp only [Value.slice.injEq] at h1
    obtain ⟨rfl, h1, rfl⟩ := h1
    exact ⟨by omega, Nat.zero_le _, fun _ => ⟨List.eq_nil_of_length_eq_zero h2, rfl⟩⟩
  · cases h1
    exact ⟨h3, h4, by simp⟩
end Go.Proofs.YtbfamjnnlcopiaaDoor

/- Layer 17: KdB again -/
namespace Go.Proofs.YtbfamjnnlcopiaaDoor
open Go.RowKit
set_option linter.unusedVariables false
set_option maxRecDepth 4000
set_option maxHeartbeats 4000000 in
set_option maxRecDepth 100000 in
theorem len64_any (x : Int) (w : World) (h0 : 0 ≤ x) (h1 : x ≤ 18446744073709551615) :
    Calls Tryd.prog 72 #[.int .u64 x] w fun e w' => e = .returned (.int .i64 (Lib.bitLen x.toNat)) ∧ w = w' := by
  have hs := Lib.len8tab_size
  go_enter Tryd.func72, Tryd.ntmps72
  go_wp2
  all_goals (go_ret; refine ⟨congrArg Ending.returned (congrArg (Value.int IntKind.i64) ?_), rfl⟩)
  all_goals first
    | exact tab_close0 x (by omega)
    | (refine tab_close 56 _ x (by omega) (by omega) (by omega) ?_
       have s := Lib.bitLen_shift56 x.toNat (by omega) (by omega)
       rw [show (x / 4294967296 / 65536 / 256).toNat = x.toNat / 72057594037927936 from by omega]; omega)
    | (refine tab_close 48 _ x (by omega) (by omega) (by omega) ?_
       have s := Lib.bitLen_shift48 x.toNat (by omega) (by omega)
       rw [show (x / 4294967296 / 65536).toNat = x.toNat / 281474976710656 from by omega]; omega)
    | (refine tab_close 40 _ x (by omega) (by omega) (by omega) ?_
       have s := Lib.bitLen_shift40 x.toNat (by omega) (by omega)
       rw [show (x / 4294967296 / 256).toNat = x.toNat / 1099511627776 from by omega]; omega)
    | (refine tab_close 32 _ x (by omega) (by omega) (by omega) ?_
       have s := Lib.bitLen_shift32 x.toNat (by omega) (by omega)
       rw [show (x / 4294967296).toNat = x.toNat / 4294967296 from by omega]; omega)
    | (refine tab_close 24 _ x (by omega) (by omega) (by omega) ?_
       have s := Lib.bitLen_shift24 x.toNat (by omega) (by omega)
       rw [show (x / 65536 / 256).toNat = x.toNat / 16777216 from by omega]; omega)
    | (refine tab_close 16 _ x (by omega) (by omega) (by omega) ?_
       have s := Lib.bitLen_shift16 x.toNat (by omega) (by omega)
       rw [show (x / 65536).toNat = x.toNat / 65536 from by omega]; omega)
    | (refine tab_close 8 _ x (by omega) (by omega) (by omega) ?_
       have s := Lib.bitLen_shift8 x.toNat (by omega) (by omega)
       rw [show (x / 256).toNat = x.toNat / 256 from by omega]; omega)
theorem rsize_any (n : Int) (w : World) (h0 : 0 ≤ n) (h1 : n ≤ 18446744073709551615) :
    Calls Tryd.prog 51 #[.int .u64 n] w fun e w' => e = .returned (.int .i64 (varL n).length) ∧ w = w' := by
  obtain ⟨a, b, c⟩ := or_one_bitLen n h0 h1
  have hl := varL_le n
  have hbl : Lib.bitLen (bits .or .u64 n 1).toNat ≤ 70 := by omega
  have C : Hid ((Lib.bitLen (bits .or .u64 n 1).toNat + 6) / 7 = (varL n).length) := c
  clear c
  go_enter Tryd.func51, Tryd.ntmps51
  go_wp2_with (go_at_call 72; refine (len64_any (bits .or .u64 n 1) _ a b).mono ?_; rintro e w' ⟨rfl, rfl⟩)
  go_ret
  exact ⟨congrArg Ending.returned (congrArg (Value.int IntKind.i64) (by rw [← C.out]; omega)), rfl⟩

/-- What is owned can be read. -/
theorem isB_owns {w : World} {base g cap : Nat} {l : List Int} (hb : ∀ x ∈ l, 0 ≤ x ∧ x ≤ 255) (h : w.ownsRow base 5 1 (.slice (some ⟨g, 0, none⟩) l.length cap) l.length (l.map (Value.int .u8))) :
    IsB w (some ⟨g, 0, none⟩) l := by
  refine ⟨hb, .inr ⟨g, 0, rfl, ?_, ?_⟩⟩
  · obtain ⟨_, ⟨h1, _⟩ | ⟨g', c', cur, h1, _, h2, _⟩⟩ := h
    · cases h1
    · cases h1
      exact (Array.getElem?_eq_some_iff.1 h2).1
  · intro i hi
    have := h.cellAt i (by omega)
    rw [Nat.zero_add, this]
    simp [List.getD, hi]
theorem ret_slice {a : Option Addr} {n n' c : Nat} (h : n = n') : Ending.returned (.slice a n c) = .returned (.slice a n' c) := by rw [h]
/-- How far the digits have come. -/
def VarAt (n : Int) (B : Nat) (w wr : World) (f : Nat) (L : List Int) (m : Int) : Prop :=
  varL n = L ++ digs f m ∧ 0 ≤ m ∧ m ≤ 18446744073709551615 ∧ m < 128 ^ (f + 1) ∧ L.length + f = 9 ∧
    wr.ownsRow B 5 1 (.slice (some ⟨B, 0, none⟩) L.length (varL n).length) L.length (L.map (Value.int .u8)) ∧ Below B w wr
theorem varAt_room {n : Int} {B : Nat} {w wr : World} {f : Nat} {L : List Int} {m : Int} (h : VarAt n B w wr f L m) : L.length + 1 ≤ (varL n).length := by
  rw [h.1, List.length_append]
  have := digs_pos f m
  omega
set_option maxHeartbeats 1000000 in
theorem var_any (n : Int) (w : World) (h0 : 0 ≤ n) (h1 : n ≤ 18446744073709551615) :
    Calls Tryd.prog 30 #[.int .u64 n] w fun e w' => e = .returned (.slice (some ⟨w.heap.size, 0, none⟩) (varL n).length (varL n).length) ∧ w'.ownsRow w.heap.size 5 1 (.slice (some ⟨w.heap.size, 0, none⟩) (varL n).length (varL n).length) (varL n).length ((varL n).map (Value.int .u8)) ∧ Below w.heap.size w w' := by
  obtain ⟨i0, hi, hz0, hz1, hz2⟩ := info_parts Tryd.info5
  have hl := varL_le n
  go_enter Tryd.func30, Tryd.ntmps30
  go_wp2_with (first
    | (go_at_call 51; refine (rsize_any n _ h0 h1).mono ?_; rintro e w' ⟨rfl, rfl⟩)
    | (at_make; refine wpList_make_own _ rfl _ _ 25 rfl w.heap.size 5 i0 (.int .u8 0) 1 Tryd.underlying25 hi hz0 hz1 _ _ _ (varL n).length rfl rfl (by omega) ?b2 ?b3 (Nat.le_refl _) ?_))
  case b2 => rw [hz2]; omega
  case b3 => unfold maxLen; omega
  intro w0 hown0 hgrow0
  go_wp2
  go_loopw [0, 3] (fun t v wr => ∃ (f : Nat) (L : List Int) (m : Int), t = .int .u64 m ∧ v = .slice (some ⟨w.heap.size, 0, none⟩) L.length (varL n).length ∧ VarAt n w.heap.size w wr f L m) (fun t _ _ => (intOf t).toNat)
  case atStart => exact ⟨9, [], n, rfl, rfl, rfl, h0, h1, big10 n h1, rfl, hown0, (Below.refl _ _).grown hgrow0 (Nat.le_refl _) (fun k h => by cases h)⟩
  case round =>
    obtain ⟨f, L, m, rfl, rfl, hV⟩ := hrel
    have hroom := varAt_room hV
    obtain ⟨hx, m0, m1, hf, hLf, hown, hnx⟩ := hV
    have HX : Hid (varL n = L ++ digs f m) := hx
    clear hx
    by_cases hlt : 128 ≤ m
    · go_wp2_with (at_builtin; refine wpList_append_fits _ rfl (.tmp 9) (.tmp 14) 25 rfl w.heap.size 5 i0 1 Tryd.underlying25 hi hz1 w.heap.size L.length (varL n).length _ rfl (hown.alloc _) ⟨wr.heap.size, 0, none⟩ 1 1 [.int .u8 (m % 128 + 128)] rfl rfl (by intro t u ht; match t, ht with | 0, ht => simp at ht; subst ht; simp [Addr.add]) (by intro u hu; simp at hu; subst hu; rfl) (by omega) ?_; intro w1 hown1 hgrow1)
      obtain ⟨f', rfl, hd, hf'⟩ := digs_step f m hlt hf
      have R : VarAt n w.heap.size w w1 f' (L ++ [m % 128 + 128]) (m / 128) :=
        ⟨by rw [HX.out, hd]; simp, by omega, by omega, hf', by simp; omega, by simpa using hown1, (hnx.alloc hnx.size _).grown hgrow1 (by simp; have := hnx.size; omega) (fun k hk => by cases hk; exact Nat.le_refl _)⟩
      go_roundw
      case rel => exact ⟨f', L ++ [m % 128 + 128], m / 128, rfl, by simp, R⟩
      case measure => simp [intOf]; omega
    · have hm : m < 128 := by omega
      go_wp2_with (at_builtin; refine wpList_append_fits _ rfl (.tmp 18) (.tmp 21) 25 rfl w.heap.size 5 i0 1 Tryd.underlying25 hi hz1 w.heap.size L.length (varL n).length _ rfl (hown.alloc _) ⟨wr.heap.size, 0, none⟩ 1 1 [.int .u8 m] rfl rfl (by intro t u ht; match t, ht with | 0, ht => simp at ht; subst ht; simp [Addr.add]) (by intro u hu; simp at hu; subst hu; rfl) (by omega) ?_; intro w1 hown1 hgrow1)
      have hd := digs_last f m hm
      have hx : varL n = L ++ [m] := by rw [HX.out, hd]
      have hlen : L.length + 1 = (varL n).length := by rw [hx]; simp
      go_ret
      rw [hlen] at hown1
      refine ⟨ret_slice hlen, ?_, (hnx.alloc hnx.size _).grown hgrow1 (by simp; have := hnx.size; omega) (fun k hk => by cases hk; exact Nat.le_refl _)⟩
      have hm' : (varL n).map (Value.int .u8) = L.map (Value.int .u8) ++ [Value.int .u8 m] := by rw [hx]; simp
      rw [hm']
      exact hown1
end Go.Proofs.YtbfamjnnlcopiaaDoor

/- Layer 17: KdC again -/
namespace Go.Proofs.YtbfamjnnlcopiaaDoor
open Go.RowKit
set_option linter.unusedVariables false
set_option maxRecDepth 4000
/-- A reader lies in block B: what is left, and the fault. Its bytes lie in an earlier block. -/
def RdAt (w : World) (B : Nat) (l : List Int) (e : Int) : Prop :=
  ∃ a cap, w.heap[B]? = some (.cells #[.slice a l.length cap, .int .i64 e] 88 (0, 0)) ∧ l.length ≤ cap ∧ cap ≤ maxLen ∧ (∀ x ∈ l, 0 ≤ x ∧ x ≤ 255) ∧
    (l = [] ∨ ∃ b off, a = some ⟨b, off, none⟩ ∧ b < B ∧ ∀ i, i < l.length → w.cell? ⟨b, off + i, none⟩ = some (.int .u8 (l.getD i 0)))
theorem cell_two {w : World} {B : Nat} {x y : Value} {t : TypeId} (h : w.heap[B]? = some (.cells #[x, y] t (0, 0))) :
    w.cell? ⟨B, 0, none⟩ = some x ∧ w.cell? ⟨B, 1, none⟩ = some y ∧ w.frozen? ⟨B, 0, none⟩ = false ∧ w.frozen? ⟨B, 1, none⟩ = false := by
  simp [World.cell?, World.frozen?, h]
theorem err_two (B : Nat) (e : Int) (w : World) (h : w.cell? ⟨B, 1, none⟩ = some (.int .i64 e)) :
    Calls Tryd.prog 60 #[.pointer (some ⟨B, 0, none⟩)] w fun r w' => r = .returned (.int .i64 e) ∧ w = w' := by
  go_enter Tryd.func60, Tryd.ntmps60
  go_wp2
  go_ret
  exact ⟨rfl, rfl⟩
theorem err_nil (w : World) :
    Calls Tryd.prog 60 #[.pointer none] w fun r w' => r = .returned (.int .i64 1) ∧ w = w' := by
  go_enter Tryd.func60, Tryd.ntmps60
  go_wp2
  go_ret
  exact ⟨rfl, rfl⟩
theorem fail_first (B : Nat) (x : Int) (w : World) (h : w.cell? ⟨B, 1, none⟩ = some (.int .i64 0)) (hf : w.frozen? ⟨B, 1, none⟩ = false) :
    Calls Tryd.prog 57 #[.pointer (some ⟨B, 0, none⟩), .int .i64 x] w fun r w' => r = .returned (.tuple #[]) ∧ w' = w.setCell ⟨B, 1, none⟩ (.int .i64 x) := by
  go_enter Tryd.func57, Tryd.ntmps57
  go_wp2_with (go_at_call 60; refine (err_two B 0 _ h).mono ?_; rintro r w' ⟨rfl, rfl⟩)
  go_end0
  exact ⟨rfl, rfl⟩
theorem fail_more (B : Nat) (x e : Int) (w : World) (h : w.cell? ⟨B, 1, none⟩ = some (.int .i64 e)) (he : (e == 0) = false) :
    Calls Tryd.prog 57 #[.pointer (some ⟨B, 0, none⟩), .int .i64 x] w fun r w' => r = .returned (.tuple #[]) ∧ w = w' := by
  go_enter Tryd.func57, Tryd.ntmps57
  go_wp2_with (go_at_call 60; refine (err_two B e _ h).mono ?_; rintro r w' ⟨rfl, rfl⟩)
  go_end0
  exact ⟨rfl, rfl⟩
theorem fail_nil (x : Int) (w : World) :
    Calls Tryd.prog 57 #[.pointer none, .int .i64 x] w fun r w' => r = .returned (.tuple #[]) ∧ w = w' := by
  go_enter Tryd.func57, Tryd.ntmps57
  go_wp2_with (go_at_call 60; refine (err_nil _).mono ?_; rintro r w' ⟨rfl, rfl⟩)
  go_end0
  exact ⟨rfl, rfl⟩
theorem left_ok (B : Nat) (a : Option Addr) (n cap : Nat) (w : World) (h0 : w.cell? ⟨B, 0, none⟩ = some (.slice a n cap)) (h : w.cell? ⟨B, 1, none⟩ = some (.int .i64 0)) :
    Calls Tryd.prog 64 #[.pointer (some ⟨B, 0, none⟩)] w fun r w' => r = .returned (.int .i64 n) ∧ w = w' := by
  go_enter Tryd.func64, Tryd.ntmps64
  go_wp2_with (go_at_call 60; refine (err_two B 0 _ h).mono ?_; rintro r w' ⟨rfl, rfl⟩)
  go_ret
  exact ⟨rfl, rfl⟩
theorem left_fault (B : Nat) (e : Int) (w : World) (h : w.cell? ⟨B, 1, none⟩ = some (.int .i64 e)) (he : (e != 0) = true) :
    Calls Tryd.prog 64 #[.pointer (some ⟨B, 0, none⟩)] w fun r w' => r = .returned (.int .i64 0) ∧ w = w' := by
  go_enter Tryd.func64, Tryd.ntmps64
  go_wp2_with (go_at_call 60; refine (err_two B e _ h).mono ?_; rintro r w' ⟨rfl, rfl⟩)
  go_ret
  exact ⟨rfl, rfl⟩
theorem left_nil (w : World) :
    Calls Tryd.prog 64 #[.pointer none] w fun r w' => r = .returned (.int .i64 0) ∧ w = w' := by
  go_enter Tryd.func64, Tryd.ntmps64
  go_wp2_with (go_at_call 60; refine (err_nil _).mono ?_; rintro r w' ⟨rfl, rfl⟩)
  go_ret
  exact ⟨rfl, rfl⟩
theorem take_fault (B : Nat) (e k : Int) (w : World) (h : w.cell? ⟨B, 1, none⟩ = some (.int .i64 e)) (he : (e != 0) = true) :
    Calls Tryd.prog 62 #[.pointer (some ⟨B, 0, none⟩), .int .i64 k] w fun r w' => r = .returned (.slice none 0 0) ∧ w = w' := by
  go_enter Tryd.func62, Tryd.ntmps62
  go_wp2_with (go_at_call 60; refine (err_two B e _ h).mono ?_; rintro r w' ⟨rfl, rfl⟩)
  go_ret
  exact ⟨rfl, rfl⟩
theorem rtake_nil (k : Int) (w : World) :
    Calls Tryd.prog 62 #[.pointer none, .int .i64 k] w fun r w' => r = .returned (.slice none 0 0) ∧ w = w' := by
  go_enter Tryd.func62, Tryd.ntmps62
  go_wp2_with (go_at_call 60; refine (err_nil _).mono ?_; rintro r w' ⟨rfl, rfl⟩)
  go_ret
  exact ⟨rfl, rfl⟩
theorem take_short (B : Nat) (a : Option Addr) (n cap : Nat) (k : Int) (w : World) (h0 : w.cell? ⟨B, 0, none⟩ = some (.slice a n cap)) (h : w.cell? ⟨B, 1, none⟩ = some (.int .i64 0)) (hf : w.frozen? ⟨B, 1, none⟩ = false) (hk : (n : Int) < k) :
    Calls Tryd.prog 62 #[.pointer (some ⟨B, 0, none⟩), .int .i64 k] w fun r w' => r = .returned (.slice none 0 0) ∧ w' = w.setCell ⟨B, 1, none⟩ (.int .i64 3) := by
  go_enter Tryd.func62, Tryd.ntmps62
  go_wp2_with (first
    | (go_at_call 60; refine (err_two B 0 _ h).mono ?_; rintro r w' ⟨rfl, rfl⟩)
    | (go_at_call 57; refine (fail_first B 3 _ h hf).mono ?_; rintro r w' ⟨rfl, rfl⟩))
  go_ret
  exact ⟨rfl, rfl⟩
theorem take_some (B b off n cap k : Nat) (w : World) (h0 : w.cell? ⟨B, 0, none⟩ = some (.slice (some ⟨b, off, none⟩) n cap)) (h : w.cell? ⟨B, 1, none⟩ = some (.int .i64 0)) (hf : w.frozen? ⟨B, 0, none⟩ = false) (hk : k ≤ n) (hc : n ≤ cap) (hm : cap ≤ maxLen) :
    Calls Tryd.prog 62 #[.pointer (some ⟨B, 0, none⟩), .int .i64 k] w fun r w' => r = .returned (.slice (some ⟨b, off, none⟩) k cap) ∧ ∃ a', w' = w.setCell ⟨B, 0, none⟩ (.slice a' (n - k) (cap - k)) ∧ (n = k ∨ a' = some ⟨b, off + k, none⟩) := by
  unfold maxLen at hm
  by_cases hck : cap = k
  · subst hck
    obtain rfl : n = cap := by omega
    go_enter Tryd.func62, Tryd.ntmps62
    go_wp2_with (go_at_call 60; refine (err_two B 0 _ h).mono ?_; rintro r w' ⟨rfl, rfl⟩)
    go_ret
    exact ⟨rfl, some ⟨b, off, none⟩, by simp, by simp⟩
  · go_enter Tryd.func62, Tryd.ntmps62
    go_wp2_with (go_at_call 60; refine (err_two B 0 _ h).mono ?_; rintro r w' ⟨rfl, rfl⟩)
    go_ret
    exact ⟨rfl, some ⟨b, off + k, none⟩, rfl, .inr rfl⟩
theorem take_none (B cap : Nat) (a : Option Addr) (w : World) (h0 : w.cell? ⟨B, 0, none⟩ = some (.slice a 0 cap)) (h : w.cell? ⟨B, 1, none⟩ = some (.int .i64 0)) (hf : w.frozen? ⟨B, 0, none⟩ = false) (hm : cap ≤ maxLen) :
    Calls Tryd.prog 62 #[.pointer (some ⟨B, 0, none⟩), .int .i64 0] w fun r w' => r = .returned (.slice a 0 cap) ∧ ∃ a', w' = w.setCell ⟨B, 0, none⟩ (.slice a' 0 cap) := by
  unfold maxLen at hm
  rcases a with _ | ⟨b, off, p⟩
  · go_enter Tryd.func62, Tryd.ntmps62
    go_wp2_with (go_at_call 60; refine (err_two B 0 _ h).mono ?_; rintro r w' ⟨rfl, rfl⟩)
    go_ret
    exact ⟨rfl, _, rfl⟩
  · go_enter Tryd.func62, Tryd.ntmps62
    go_wp2_with (go_at_call 60; refine (err_two B 0 _ h).mono ?_; rintro r w' ⟨rfl, rfl⟩)
    go_ret
    exact ⟨rfl, _, rfl⟩


theorem ret3 {k1 k2 k3 : IntKind} {a b c a' b' c' : Int} (h : a = a') (h' : b = b') (h'' : c = c') : Ending.returned (.tuple #[.int k1 a, .int k2 b, .int k3 c]) = .returned (.tuple #[.int k1 a', .int k2 b', .int k3 c']) := by rw [h, h', h'']
set_option maxHeartbeats 2000000 in
theorem digits_any (a : Option Addr) (cap : Nat) (l : List Int) (w : World) (h : IsB w a l) (hm : l.length ≤ maxLen) :
    Calls Tryd.prog 61 #[.slice a l.length cap] w fun e w' => e = .returned (.tuple #[.int .u64 (rdL l).1, .int .i64 (rdL l).2.1, .int .i64 (rdL l).2.2]) ∧ w = w' := by
  obtain ⟨hb, rfl | ⟨b, off, rfl, hsz, hc⟩⟩ := h
  · go_enter Tryd.func61, Tryd.ntmps61
    go_wp2
    refine wp_loop_rounds 1 ?_
    rw [rounds_succ]
    go_wp2
    go_ret3
    exact ⟨rfl, rfl⟩
  · unfold maxLen at hm
    go_enter Tryd.func61, Tryd.ntmps61
    go_wp2
    go_loop [2, 9] (fun n i => ∃ (k : Nat) (acc : Int), k ≤ l.length ∧ k ≤ 9 ∧ i = .int .i64 k ∧ n = .int .u64 acc ∧ 0 ≤ acc ∧ acc < 2 ^ (7 * k) ∧ rdL l = rdF k acc (l.drop k)) (fun _ i => l.length - (intOf i).toNat)
    case atStart => exact ⟨0, 0, Nat.zero_le _, Nat.zero_le _, rfl, rfl, by decide, by decide, rfl⟩
    case round =>
      obtain ⟨k, acc, hkl, hk9, rfl, rfl, ha0, ha1, hr⟩ := hrel
      have HR : Hid (rdL l = rdF k acc (l.drop k)) := hr
      clear hr
      by_cases hl : k < l.length
      · have hcell := hc k hl
        have hx := hb l[k] (List.getElem_mem hl)
        go_wp2
        all_goals first
          | (go_round
             case rel =>
               have h9 : ¬ (k : Int) = 9 := by assumption
               have hge : 128 ≤ l[k] := by assumption
               have D := dig_or k acc (l[k] % 128) ha0 ha1 (by omega) (.inl ⟨by omega, by omega⟩)
               exact ⟨k + 1, acc + l[k] % 128 * 2 ^ (7 * k), by omega, by omega, by go_num, by rw [D.1], D.2.1, dig_bd k acc _ ha1 (by omega), by rw [HR.out]; exact rd_go l k acc hl (by omega) (by omega) hge⟩
             case measure => simp [intOf]; omega)
          | (have h1 : 1 < l[k] := by assumption
             have E : rdL l = (0, 0, 4) := by rw [HR.out]; exact rd_bad l k acc hl (.inl ⟨by omega, h1⟩)
             go_ret3
             rw [E]
             exact ⟨rfl, rfl⟩)
          | (have h1 : (l[k] == 0) = true := by assumption
             have E : rdL l = (0, 0, 4) := by rw [HR.out]; exact rd_bad l k acc hl (.inr ⟨by omega, by simpa using h1⟩)
             go_ret3
             rw [E]
             exact ⟨rfl, rfl⟩)
          | (have h1 : l[k] < 128 := by assumption
             have h2 : ¬ (k = 9 ∧ 1 < l[k]) := by omega
             have h3 : ¬ (0 < k ∧ l[k] = 0) := by
               first
                 | (have h4 : (l[k] == 0) = false := by assumption
                    intro h5
                    simp [h5.2] at h4)
                 | omega
             have E : rdL l = (acc + l[k] % 128 * 2 ^ (7 * k), k + 1, 0) := by rw [HR.out]; exact rd_stop l k acc hl h2 h3 h1
             have D := dig_or k acc (l[k] % 128) ha0 ha1 (by omega) (by omega)
             go_ret3
             rw [E]
             first
               | exact ⟨ret3 D.1 (by first | (dsimp only; omega) | omega | simp) rfl, rfl⟩
               | (have hk : k = 9 := by omega
                  have D9 := dig_or9 k acc (l[k] % 128) hk ha0 ha1 (by omega) (by omega)
                  exact ⟨ret3 D9 (by first | (dsimp only; omega) | omega | simp) rfl, rfl⟩))
      · have E : rdL l = (0, 0, 3) := by rw [HR.out]; exact rd_end l k acc (by omega)
        have HE : Hid (rdL l = (0, 0, 3)) := E
        clear E
        go_wp2
        go_ret3
        rw [HE.out]
        exact ⟨rfl, rfl⟩

theorem clone_nil (n c : Nat) (w : World) :
    Calls Tryd.prog 18 #[.slice none n c] w fun e w' => e = .returned (.slice none 0 0) ∧ w = w' := by
  have q : ∀ (w : World) (a : Option Addr) (n c n' c' : Nat), (binOp .eql 25 (.slice a n c) (.slice none n' c')).run Tryd.prog w = .ok (.bool a.isNone) w := fun w a n c n' c' => Lib.run_eql_slice_nil w _ _ a n c n' c' Tryd.underlying25
  go_enter Tryd.func18, Tryd.ntmps18
  go_wp2
  go_ret
  exact ⟨rfl, rfl⟩
set_option maxHeartbeats 2000000 in
theorem rclone_at (a : Addr) (n c : Nat) (xs : List Int) (w : World) (hx : xs.length = n) (hbig : n ≤ 140737488355328) (hc : ∀ i, i < n → w.cell? (a.add i) = some (.int .u8 (xs.getD i 0))) :
    Calls Tryd.prog 18 #[.slice (some a) n c] w fun e w' => ∃ v', e = .returned v' ∧ w'.ownsRow w.heap.size 5 1 v' n (xs.map (Value.int .u8)) ∧ v' ≠ .slice none 0 0 ∧ Below w.heap.size w w' := by
  obtain ⟨i0, hi, hz0, hz1, hz2⟩ := info_parts Tryd.info5
  have q : ∀ (w : World) (a : Option Addr) (n c n' c' : Nat), (binOp .eql 25 (.slice a n c) (.slice none n' c')).run Tryd.prog w = .ok (.bool a.isNone) w := fun w a n c n' c' => Lib.run_eql_slice_nil w _ _ a n c n' c' Tryd.underlying25
  have A : Hid (∀ i, i < n → w.cell? (a.add i) = some (.int .u8 (xs.getD i 0))) := hc
  clear hc
  go_enter Tryd.func18, Tryd.ntmps18
  go_wp2_with (at_builtin; refine wpList_append_own _ rfl _ _ 25 rfl w.heap.size 5 i0 (.int .u8 0) 1 1 Tryd.underlying25 hi hz0 hz1 hz2 rfl (by decide) _ _ _ rfl (World.ownsRow_made w #[] 0 (Nat.le_refl _) (Nat.zero_le _) rfl) a n c (xs.map (Value.int .u8)) rfl ?qc1 ?qc2 ?qc3 ?qc4 ?qc5 ?qc6 ?_)
  case qc1 => simp; omega
  case qc2 =>
    intro j u hj
    have hjn : j < n := by
      have := (List.getElem?_eq_some_iff.1 hj).1
      simp at this
      omega
    refine Lib.cell?_alloc_some _ ?_
    rw [A.out j hjn]
    have e : (xs.map (Value.int .u8))[j]? = some (Value.int .u8 (xs.getD j 0)) := by simp [List.getD, List.getElem?_eq_getElem (show j < xs.length by omega)]
    rw [e] at hj
    exact hj
  case qc3 => intro u hu; obtain ⟨x, _, rfl⟩ := List.mem_map.1 hu; rfl
  case qc4 => unfold maxLen; omega
  case qc5 => omega
  case qc6 => simp
  intro v' w1 hown hgrow hnil
  go_wp2
  go_ret
  refine ⟨v', rfl, by simpa using hown, ?_, ?_⟩
  · first | exact hnil | (intro e; exact absurd (hnil.1 e).1 (by simp))
  · exact ((Below.refl _ w).alloc (Nat.le_refl _) _).grown hgrow (by simp) (by intro k hk; simp [Value.ownBlock] at hk; omega)
/-- What an owned row is, taken apart. -/
theorem owns_parts {w : World} {base n : Nat} {v : Value} {l : List Int} (hn : l.length = n) (h : w.ownsRow base 5 1 v n (l.map (Value.int .u8))) (hv : v ≠ .slice none 0 0) :
    ∃ g cap, v = .slice (some ⟨g, 0, none⟩) n cap ∧ base ≤ g ∧ g < w.heap.size ∧ n ≤ cap ∧ cap ≤ maxLen ∧ ∀ i, i < l.length → w.cell? ⟨g, i, none⟩ = some (.int .u8 (l.getD i 0)) := by
  have h' := h
  obtain ⟨_, ⟨h1, _⟩ | ⟨g, c', cur, rfl, hb, h2, hc1, hc2, _, _⟩⟩ := h
  · exact absurd h1 hv
  · refine ⟨g, c', rfl, hb, (Array.getElem?_eq_some_iff.1 h2).1, hc1, hc2, ?_⟩
    intro i hi
    have := h'.cellAt i (by omega)
    rw [this]
    simp [List.getD, hi]
theorem cell_push (w : World) (cs : Array Value) (t : TypeId) : (w.alloc (.cells cs t)).heap[w.heap.size]? = some (.cells cs t (0, 0)) := by
  show (w.heap.push _)[w.heap.size]? = _
  simp
set_option maxHeartbeats 1000000 in
theorem open_any (a : Option Addr) (cap : Nat) (l : List Int) (w : World) (h : IsB w a l) (hm : l.length ≤ 140737488355328) (ha : a = none → l = []) :
    Calls Tryd.prog 32 #[.slice a l.length cap] w fun e w' => ∃ B, e = .returned (.pointer (some ⟨B, 0, none⟩)) ∧ w.heap.size ≤ B ∧ B < w'.heap.size ∧ RdAt w' B l 0 ∧ Below w.heap.size w w' := by
  rcases a with _ | ad
  · obtain rfl := ha rfl
    go_enter Tryd.func32, Tryd.ntmps32
    go_wp2_with (go_at_call 18; refine (clone_nil _ _ _).mono ?_; rintro e w' ⟨rfl, rfl⟩)
    go_ret
    refine ⟨w.heap.size, rfl, Nat.le_refl _, by simp, ⟨none, 0, cell_push _ _ _, Nat.le_refl _, Nat.zero_le _, h.1, .inl rfl⟩, (Below.refl _ _).alloc (Nat.le_refl _) _⟩
  · have hc : ∀ i, i < l.length → w.cell? (ad.add i) = some (.int .u8 (l.getD i 0)) := by
      intro i hi
      obtain ⟨_, rfl | ⟨b, off, e, _, hc⟩⟩ := h
      · simp at hi
      · cases e
        rw [addr_add]; exact hc i hi
    have H : Hid (∀ i, i < l.length → w.cell? (ad.add i) = some (.int .u8 (l.getD i 0))) := hc
    clear hc
    have hb := h.1
    clear h ha
    go_enter Tryd.func32, Tryd.ntmps32
    go_wp2_with fail
    refine (rclone_at ad l.length cap l w rfl hm H.out).mono ?_
    rintro e w1 ⟨v, rfl, hown, hv, hbel⟩
    obtain ⟨g, c, hvv, hg1, hg2, hc1, hc2, hcell⟩ := owns_parts rfl hown hv
    rw [hvv]
    have HC : Hid (∀ i, i < l.length → w1.cell? ⟨g, i, none⟩ = some (.int .u8 (l.getD i 0))) := hcell
    clear hcell hown hv hvv
    go_wp2
    go_ret
    refine ⟨w1.heap.size, rfl, hbel.size, by simp, ⟨some ⟨g, 0, none⟩, c, cell_push _ _ _, hc1, hc2, hb, .inr ⟨g, 0, rfl, hg2, ?_⟩⟩, hbel.alloc hbel.size _⟩
    intro i hi
    rw [Nat.zero_add]
    exact Lib.cell?_alloc_some _ (HC.out i hi)


theorem digits_is (a : Option Addr) (cap : Nat) (l : List Int) (w : World) (h : IsB w a l) (hm : l.length ≤ maxLen) (n : Int) (sz : Nat) (er : Int) (hr : rdL l = (n, sz, er)) :
    Calls Tryd.prog 61 #[.slice a l.length cap] w fun e w' => e = .returned (.tuple #[.int .u64 n, .int .i64 sz, .int .i64 er]) ∧ w = w' := by
  have := digits_any a cap l w h hm
  rw [hr] at this
  exact this
theorem cell_far (w : World) (B o : Nat) (v : Value) (b i : Nat) (h : b ≠ B) : (w.setCell ⟨B, o, none⟩ v).cell? ⟨b, i, none⟩ = w.cell? ⟨b, i, none⟩ :=
  World.cell?_of_block (w := w) (Below.heap_setCell w ⟨B, o, none⟩ v b h)
theorem two_set0 {w : World} {B : Nat} {x y v : Value} {t : TypeId} (h : w.heap[B]? = some (.cells #[x, y] t (0, 0))) : (w.setCell ⟨B, 0, none⟩ v).heap[B]? = some (.cells #[v, y] t (0, 0)) := by
  have hlt := lt_of_block h
  have h' : w.heap[B] = .cells #[x, y] t (0, 0) := by simpa [Array.getElem?_eq_getElem hlt] using h
  show (w.heap.modify B _)[B]? = _
  rw [Array.getElem?_eq_getElem (by simpa using hlt), Array.getElem_modify_self, h']
  rfl
theorem two_set1 {w : World} {B : Nat} {x y v : Value} {t : TypeId} (h : w.heap[B]? = some (.cells #[x, y] t (0, 0))) : (w.setCell ⟨B, 1, none⟩ v).heap[B]? = some (.cells #[x, v] t (0, 0)) := by
  have hlt := lt_of_block h
  have h' : w.heap[B] = .cells #[x, y] t (0, 0) := by simpa [Array.getElem?_eq_getElem hlt] using h
  show (w.heap.modify B _)[B]? = _
  rw [Array.getElem?_eq_getElem (by simpa using hlt), Array.getElem_modify_self, h']
  rfl
theorem grown_set (w : World) (a : Addr) (v : Value) : w.grownBy (w.setCell a v) (some a.block) :=
  ⟨rfl, rfl, rfl, by show w.heap.size ≤ (w.heap.modify _ _).size; simp, fun k _ hk => Below.heap_setCell w a v k (fun e => hk (by rw [e]))⟩
theorem rd_fault {w : World} {B : Nat} {l : List Int} {e : Int} (h : RdAt w B l e) (x : Int) : RdAt (w.setCell ⟨B, 1, none⟩ (.int .i64 x)) B l x := by
  obtain ⟨a, cap, hh, h1, h2, h3, h4⟩ := h
  refine ⟨a, cap, two_set1 hh, h1, h2, h3, ?_⟩
  rcases h4 with h4 | ⟨b, off, e1, e2, e3⟩
  · exact .inl h4
  · exact .inr ⟨b, off, e1, e2, fun i hi => by rw [cell_far _ _ _ _ _ _ (by omega)]; exact e3 i hi⟩
theorem isB_of_rd {w : World} {B : Nat} {l : List Int} {e : Int} (h : RdAt w B l e) : ∃ a cap, w.cell? ⟨B, 0, none⟩ = some (.slice a l.length cap) ∧ w.cell? ⟨B, 1, none⟩ = some (.int .i64 e) ∧ w.frozen? ⟨B, 0, none⟩ = false ∧ w.frozen? ⟨B, 1, none⟩ = false ∧ IsB w a l ∧ l.length ≤ cap ∧ cap ≤ maxLen := by
  obtain ⟨a, cap, hh, h1, h2, h3, h4⟩ := h
  obtain ⟨c1, c2, c3, c4⟩ := cell_two hh
  refine ⟨a, cap, c1, c2, c3, c4, ⟨h3, ?_⟩, h1, h2⟩
  rcases h4 with h4 | ⟨b, off, e1, e2, e3⟩
  · exact .inl h4
  · exact .inr ⟨b, off, e1, by have := lt_of_block hh; omega, e3⟩
/-- take, of a reader without a fault, of no more than is left: what it answers is the reader's own memory. -/
theorem take_rd (B k : Nat) (l : List Int) (w : World) (h : RdAt w B l 0) (hk : k ≤ l.length) :
    Calls Tryd.prog 62 #[.pointer (some ⟨B, 0, none⟩), .int .i64 k] w fun r w' => ∃ a cap, r = .returned (.slice a k cap) ∧ RdAt w' B (l.drop k) 0 ∧ w.grownBy w' (some B) ∧ IsB w' a (l.take k) := by
  obtain ⟨a, cap, hh, h1, h2, h3, h4⟩ := h
  obtain ⟨c1, c2, c3, c4⟩ := cell_two hh
  rcases h4 with rfl | ⟨b, off, rfl, hbB, hc⟩
  · obtain rfl : k = 0 := by simpa using hk
    refine (take_none B cap a w c1 c2 c3 h2).mono ?_
    rintro r w' ⟨rfl, a', rfl⟩
    exact ⟨a, cap, rfl, ⟨a', cap, two_set0 hh, h1, h2, h3, .inl rfl⟩, grown_set _ _ _, ⟨by simp, .inl rfl⟩⟩
  · refine (take_some B b off l.length cap k w c1 c2 c3 hk h1 h2).mono ?_
    rintro r w' ⟨rfl, a', rfl, ha⟩
    have hcell : ∀ (v : Value) i, i < l.length → (w.setCell ⟨B, 0, none⟩ v).cell? ⟨b, off + i, none⟩ = some (.int .u8 (l.getD i 0)) := by
      intro v i hi
      rw [cell_far _ _ _ _ _ _ (by omega)]
      exact hc i hi
    have hlt := lt_of_block hh
    refine ⟨_, cap, rfl, ⟨a', cap - k, ?_, by simp; omega, by omega, fun x hx => h3 x (List.mem_of_mem_drop hx), ?_⟩, grown_set _ _ _, fun x hx => h3 x (List.mem_of_mem_take hx), ?_⟩
    · rw [List.length_drop]
      exact two_set0 hh
    · rcases ha with ha | ha
      · exact .inl (List.drop_eq_nil_of_le (by omega))
      · refine .inr ⟨b, off + k, ha, hbB, fun i hi => ?_⟩
        rw [List.length_drop] at hi
        have := hcell (.slice a' (l.length - k) (cap - k)) (k + i) (by omega)
        rw [Nat.add_assoc, this]
        simp [List.getD]
    · refine .inr ⟨b, off, rfl, by show b < (w.heap.modify _ _).size; simp; omega, fun i hi => ?_⟩
      rw [List.length_take] at hi
      rw [hcell _ i (by omega)]
      simp [List.getD, show i < k by omega]
set_option maxHeartbeats 1000000 in
theorem upto_any (B : Nat) (l : List Int) (e most : Int) (w : World) (h : RdAt w B l e) :
    Calls Tryd.prog 34 #[.pointer (some ⟨B, 0, none⟩), .int .u64 most] w fun r w' => r = .returned (.int .u64 (upS l e most).1) ∧ RdAt w' B (upS l e most).2.1 (upS l e most).2.2 ∧ w.grownBy w' (some B) := by
  obtain ⟨a, cap, c1, c2, c3, c4, hB, hc, hm⟩ := isB_of_rd h
  by_cases he : e = 0
  · subst he
    have hF := rdL_facts l hB.1
    obtain ⟨n, sz, er, hr⟩ : ∃ n sz er, rdL l = (n, sz, er) := ⟨_, _, _, rfl⟩
    rw [hr] at hF
    dsimp only at hF
    have HU : upS l 0 most = if er = 0 then (if n ≤ most then (n, l.drop sz, 0) else (0, l, 4)) else (0, l, er) := by rw [upS, if_pos rfl, hr]
    have HR : Hid (rdL l = (n, sz, er)) := hr
    have HRd : Hid (RdAt w B l 0) := h
    have HB : Hid (IsB w a l) := hB
    clear hr h hB
    rcases hF with ⟨rfl, n0, n1, s1, s2⟩ | ⟨he, rfl, rfl⟩
    · by_cases hle : n ≤ most
      · rw [if_pos rfl, if_pos hle] at HU
        have HU' : Hid (upS l 0 most = (n, l.drop sz, 0)) := HU
        clear HU
        go_enter Tryd.func34, Tryd.ntmps34
        go_wp2_with (first
          | (go_at_call 60; refine (err_two B 0 _ c2).mono ?_; rintro r w' ⟨rfl, rfl⟩)
          | (go_at_call 61; refine (digits_is a cap l _ HB.out (by omega) n sz 0 HR.out).mono ?_; rintro r w' ⟨rfl, rfl⟩)
          | (go_at_call 62; refine (take_rd B sz l _ HRd.out s2).mono ?_; rintro r w1 ⟨a1, cap1, rfl, hR1, hg1, _⟩))
        go_ret
        rw [HU'.out]
        exact ⟨rfl, hR1, hg1⟩
      · rw [if_pos rfl, if_neg hle] at HU
        have HU' : Hid (upS l 0 most = (0, l, 4)) := HU
        clear HU
        go_enter Tryd.func34, Tryd.ntmps34
        go_wp2_with (first
          | (go_at_call 60; refine (err_two B 0 _ c2).mono ?_; rintro r w' ⟨rfl, rfl⟩)
          | (go_at_call 61; refine (digits_is a cap l _ HB.out (by omega) n sz 0 HR.out).mono ?_; rintro r w' ⟨rfl, rfl⟩)
          | (go_at_call 57; refine (fail_first B 4 _ c2 c4).mono ?_; rintro r w' ⟨rfl, rfl⟩))
        go_ret
        rw [HU'.out]
        exact ⟨rfl, rd_fault HRd.out 4, grown_set _ _ _⟩
    · have hq : (er == 0) = false := by rw [beq_eq_false_iff_ne]; omega
      have hq' : (er != 0) = true := by rw [bne_iff_ne]; omega
      rw [if_neg (by omega)] at HU
      have HU' : Hid (upS l 0 most = (0, l, er)) := HU
      clear HU
      go_enter Tryd.func34, Tryd.ntmps34
      go_wp2_with (first
        | (go_at_call 60; refine (err_two B 0 _ c2).mono ?_; rintro r w' ⟨rfl, rfl⟩)
        | (go_at_call 61; refine (digits_is a cap l _ HB.out (by omega) 0 0 er HR.out).mono ?_; rintro r w' ⟨rfl, rfl⟩)
        | (go_at_call 57; refine (fail_first B er _ c2 c4).mono ?_; rintro r w' ⟨rfl, rfl⟩))
      go_ret
      rw [HU'.out]
      exact ⟨rfl, rd_fault HRd.out er, grown_set _ _ _⟩
  · have hq' : (e != 0) = true := by rw [bne_iff_ne]; exact he
    have HRd : Hid (RdAt w B l e) := h
    have HU : Hid (upS l e most = (0, l, e)) := by show _ = _; rw [upS, if_neg he]
    clear h hB
    go_enter Tryd.func34, Tryd.ntmps34
    go_wp2_with (go_at_call 60; refine (err_two B e _ c2).mono ?_; rintro r w' ⟨rfl, rfl⟩)
    go_ret
    rw [HU.out]
    exact ⟨rfl, HRd.out, World.grownBy.refl _ _⟩
theorem upto_nil (most : Int) (w : World) :
    Calls Tryd.prog 34 #[.pointer none, .int .u64 most] w fun r w' => r = .returned (.int .u64 0) ∧ w = w' := by
  go_enter Tryd.func34, Tryd.ntmps34
  go_wp2_with (go_at_call 60; refine (err_nil _).mono ?_; rintro r w' ⟨rfl, rfl⟩)
  go_ret
  exact ⟨rfl, rfl⟩
theorem rvar_any (B : Nat) (l : List Int) (e : Int) (w : World) (h : RdAt w B l e) :
    Calls Tryd.prog 81 #[.pointer (some ⟨B, 0, none⟩)] w fun r w' => r = .returned (.int .u64 (upS l e 18446744073709551615).1) ∧ RdAt w' B (upS l e 18446744073709551615).2.1 (upS l e 18446744073709551615).2.2 ∧ w.grownBy w' (some B) := by
  have HRd : Hid (RdAt w B l e) := h
  clear h
  go_enter Tryd.func81, Tryd.ntmps81
  go_wp2_with (go_at_call 34; refine (upto_any B l e _ _ HRd.out).mono ?_; rintro r w1 ⟨rfl, hR, hg⟩)
  go_ret
  exact ⟨rfl, hR, hg⟩
theorem rvar_nil (w : World) :
    Calls Tryd.prog 81 #[.pointer none] w fun r w' => r = .returned (.int .u64 0) ∧ w = w' := by
  go_enter Tryd.func81, Tryd.ntmps81
  go_wp2_with (go_at_call 34; refine (upto_nil _ _).mono ?_; rintro r w1 ⟨rfl, rfl⟩)
  go_ret
  exact ⟨rfl, rfl⟩

theorem grown_below {w w' : World} (h : Below w.heap.size w w') (row : Option Nat) : w.grownBy w' row := ⟨h.os, h.tape, h.output, h.size, fun k hk _ => h.block k hk⟩
theorem grown_then {a b c : World} {row : Option Nat} (h : a.grownBy b row) (k : Below b.heap.size b c) : a.grownBy c row :=
  ⟨k.os.trans h.os, k.tape.trans h.tape, k.output.trans h.output, Nat.le_trans h.size k.size, fun i hi hn => (k.block i (Nat.lt_of_lt_of_le hi h.size)).trans (h.block i hi hn)⟩
theorem rd_keep {w w' : World} {B : Nat} {l : List Int} {e : Int} (h : RdAt w B l e) (hb : Below w.heap.size w w') : RdAt w' B l e := by
  obtain ⟨a, cap, hh, h1, h2, h3, h4⟩ := h
  have hlt := lt_of_block hh
  refine ⟨a, cap, (hb.block B hlt).trans hh, h1, h2, h3, ?_⟩
  rcases h4 with h4 | ⟨b, off, e1, e2, e3⟩
  · exact .inl h4
  · exact .inr ⟨b, off, e1, e2, fun i hi => by rw [hb.cell (p := ⟨b, off + i, none⟩) (by show b < _; omega)]; exact e3 i hi⟩

def failV (e x : Int) : Int := if e = 0 then x else e
def leftV (l : List Int) (e : Int) : Int := if e = 0 then (l.length : Int) else 0
theorem left_any (B : Nat) (l : List Int) (e : Int) (w : World) (h : RdAt w B l e) :
    Calls Tryd.prog 64 #[.pointer (some ⟨B, 0, none⟩)] w fun r w' => r = .returned (.int .i64 (leftV l e)) ∧ w = w' := by
  obtain ⟨a, cap, c1, c2, c3, c4, _, _, _⟩ := isB_of_rd h
  by_cases he : e = 0
  · subst he
    rw [leftV, if_pos rfl]
    exact left_ok B a l.length cap w c1 c2
  · rw [leftV, if_neg he]
    exact left_fault B e w c2 (by rw [bne_iff_ne]; exact he)
theorem err_any (B : Nat) (l : List Int) (e : Int) (w : World) (h : RdAt w B l e) :
    Calls Tryd.prog 60 #[.pointer (some ⟨B, 0, none⟩)] w fun r w' => r = .returned (.int .i64 e) ∧ w = w' := by
  obtain ⟨a, cap, c1, c2, c3, c4, _, _, _⟩ := isB_of_rd h
  exact err_two B e w c2
theorem fail_any (B : Nat) (l : List Int) (e x : Int) (w : World) (h : RdAt w B l e) :
    Calls Tryd.prog 57 #[.pointer (some ⟨B, 0, none⟩), .int .i64 x] w fun r w' => r = .returned (.tuple #[]) ∧ RdAt w' B l (failV e x) ∧ w.grownBy w' (some B) := by
  obtain ⟨a, cap, c1, c2, c3, c4, _, _, _⟩ := isB_of_rd h
  by_cases he : e = 0
  · subst he
    refine (fail_first B x w c2 c4).mono ?_
    rintro r w' ⟨rfl, rfl⟩
    rw [failV, if_pos rfl]
    exact ⟨rfl, rd_fault h x, grown_set _ _ _⟩
  · refine (fail_more B x e w c2 (by rw [beq_eq_false_iff_ne]; exact he)).mono ?_
    rintro r w' ⟨rfl, rfl⟩
    rw [failV, if_neg he]
    exact ⟨rfl, h, World.grownBy.refl _ _⟩
end Go.Proofs.YtbfamjnnlcopiaaDoor

/- Layer 17: KdD again -/
namespace Go.Proofs.YtbfamjnnlcopiaaDoor
open Go.RowKit
set_option linter.unusedVariables false
set_option maxRecDepth 4000
def RVarAt (n : Int) (B : Nat) (w wr : World) (a : Option Addr) (cap f : Nat) (L : List Int) (m : Int) : Prop :=
  varL n = L ++ digs f m ∧ 0 ≤ m ∧ m ≤ 18446744073709551615 ∧ m < 128 ^ (f + 1) ∧ L.length + f = 9 ∧ OwnsB wr B a L cap ∧ Below B w wr
theorem rsame_true (a a' : Option Addr) (n n' cap cap' : Nat) (l : List Int) (w : World) (h : IsB w a l) (h' : IsB w a' l) (hn : n = l.length) (hn' : n' = l.length) :
    Calls Tryd.prog 27 #[.slice a n cap, .slice a' n' cap'] w fun e w' => e = .returned (.bool true) ∧ w = w' := by
  refine (same_any a a' n n' cap cap' l l w h h' hn hn').mono ?_
  rintro e w' ⟨rfl, rfl⟩
  exact ⟨by simp, rfl⟩


theorem grown_two {a b c : World} {row : Option Nat} (h : a.grownBy b row) (k : b.grownBy c row) : a.grownBy c row :=
  ⟨k.os.trans h.os, k.tape.trans h.tape, k.output.trans h.output, Nat.le_trans h.size k.size, fun i hi hn => (k.block i (Nat.lt_of_lt_of_le hi h.size) hn).trans (h.block i hi hn)⟩

theorem one_step (k : Nat) (hk : k ≤ 8) : IntKind.u64.wrap (2 ^ (7 * k) * 128) = 2 ^ (7 * (k + 1)) := by
  have hm := pow7_mono (k + 1) 9 (by omega)
  have h9 : (2 : Int) ^ (7 * 9) = 9223372036854775808 := by decide
  have hp : (0 : Int) < 2 ^ (7 * (k + 1)) := Int.pow_pos (by decide)
  rw [IntKind.wrap_u64, Int.mul_comm, ← pow7_step]
  omega
theorem add_step (k : Nat) (acc c : Int) (h0 : 0 ≤ acc) (h1 : acc < 2 ^ (7 * k)) (hc : 0 ≤ c) (h9 : k ≤ 8 ∧ c ≤ 127 ∨ k = 9 ∧ c ≤ 1) :
    IntKind.u64.wrap (acc + IntKind.u64.wrap (c * 2 ^ (7 * k))) = acc + c * 2 ^ (7 * k) := by
  have D := dig_or k acc c h0 h1 hc h9
  have hp : (0 : Int) < 2 ^ (7 * k) := Int.pow_pos (by decide)
  have hbp : 0 ≤ c * 2 ^ (7 * k) := Int.mul_nonneg hc (by omega)
  rw [IntKind.wrap_u64, IntKind.wrap_u64]
  omega
theorem up_most (l : List Int) (e most : Int) (hb : ∀ x ∈ l, 0 ≤ x ∧ x ≤ 255) :
    (e ≠ 0 ∧ upS l e 18446744073709551615 = (0, l, e) ∧ upS l e most = (0, l, e)) ∨
    (e = 0 ∧ ∃ er, er ≠ 0 ∧ upS l e 18446744073709551615 = (0, l, er) ∧ upS l e most = (0, l, er)) ∨
    (e = 0 ∧ ∃ n l', n ≤ most ∧ upS l e 18446744073709551615 = (n, l', 0) ∧ upS l e most = (n, l', 0)) ∨
    (e = 0 ∧ ∃ n l', most < n ∧ upS l e 18446744073709551615 = (n, l', 0) ∧ upS l e most = (0, l, 4)) := by
  by_cases he : e = 0
  · right
    have hF := rdL_facts l hb
    rcases hF with ⟨h0, h1, h2, _, _⟩ | ⟨h0, _, _⟩
    · right
      have e1 : upS l e 18446744073709551615 = ((rdL l).1, l.drop (rdL l).2.1, 0) := by rw [upS, if_pos he, if_pos h0, if_pos h2]
      by_cases hm : (rdL l).1 ≤ most
      · exact .inl ⟨he, _, _, hm, e1, by rw [upS, if_pos he, if_pos h0, if_pos hm]⟩
      · exact .inr ⟨he, _, _, by omega, e1, by rw [upS, if_pos he, if_pos h0, if_neg hm]⟩
    · left
      have hne : ¬ (rdL l).2.2 = 0 := by omega
      exact ⟨he, _, hne, by rw [upS, if_pos he, if_neg hne], by rw [upS, if_pos he, if_neg hne]⟩
  · left
    exact ⟨he, by rw [upS, if_neg he], by rw [upS, if_neg he]⟩
theorem RdAt.bytes {w : World} {B : Nat} {l : List Int} {e : Int} (h : RdAt w B l e) : ∀ x ∈ l, 0 ≤ x ∧ x ≤ 255 := by
  obtain ⟨_, _, _, _, _, h3, _⟩ := h
  exact h3
theorem rup_len (l : List Int) (e most : Int) : (upS l e most).2.1.length ≤ l.length := by
  rw [upS]
  split
  · split
    · split
      · simp
      · simp
    · simp
  · simp
theorem rd_grown {w w' : World} {B M : Nat} {l : List Int} {e : Int} (h : RdAt w B l e) (hg : w.grownBy w' (some M)) (hM : B < M) : RdAt w' B l e := by
  obtain ⟨a, cap, hh, h1, h2, h3, h4⟩ := h
  have hlt := lt_of_block hh
  refine ⟨a, cap, (hg.block B hlt (by intro q; have := Option.some.inj q; omega)).trans hh, h1, h2, h3, ?_⟩
  rcases h4 with h4 | ⟨b, off, e1, e2, e3⟩
  · exact .inl h4
  · exact .inr ⟨b, off, e1, e2, fun i hi => hg.cell (e3 i hi) (by intro q; have := Option.some.inj q; simp at this; omega)⟩
theorem isB_grown {w w' : World} {g B : Nat} {l : List Int} (h : IsB w (some ⟨g, 0, none⟩) l) (hg : w.grownBy w' (some B)) (hne : g ≠ B) : IsB w' (some ⟨g, 0, none⟩) l := by
  obtain ⟨h1, h2 | ⟨b, off, e, hs, hc⟩⟩ := h
  · exact ⟨h1, .inl h2⟩
  · cases e
    refine ⟨h1, .inr ⟨g, 0, rfl, Nat.lt_of_lt_of_le hs hg.size, fun i hi => ?_⟩⟩
    exact hg.cell (hc i hi) (by intro q; exact hne (Option.some.inj q))
end Go.Proofs.YtbfamjnnlcopiaaDoor
