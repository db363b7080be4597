/- Layer 17: RoI again -/
import Derived.Test.YtbfamjnnlcopiaaDoorAuB
import Derived.Test.YtbfamjnnlcopiaaDoorMhA
import Derived.Test.YtbfamjnnlcopiaaDoorJrRoH
import Derived.Test.YtbfamjnnlcopiaaDoorGtH
namespace Go.Proofs.YtbfamjnnlcopiaaDoor
open Go.RowKit
set_option linter.unusedVariables false
set_option maxRecDepth 4000
theorem rhlt {w : World} {g : Nat} {o : Obj} (h : w.heap[g]? = some o) : g < w.heap.size := (Array.getElem?_eq_some_iff.1 h).1
/-- A block that begins with these bytes. -/
def rByk (w : World) (g : Nat) (l : List Int) : Prop := ∃ cur, w.heap[g]? = some (.cells cur 5 (0, 0)) ∧ cur.toList.take l.length = cellsB l
theorem rByk.lt {w : World} {g : Nat} {l : List Int} (h : rByk w g l) : g < w.heap.size := by
  obtain ⟨cur, h, _⟩ := h; exact rhlt h
theorem rByk.at {cur : Array Value} {l : List Int} (h : cur.toList.take l.length = cellsB l) (i : Nat) (hi : i < l.length) : cur[i]? = some (.int .u8 (l.getD i 0)) := by
  have e := cellsB_at l i hi
  rw [← h, List.getElem?_take_of_lt hi] at e
  simpa using e
theorem rByk.size {cur : Array Value} {l : List Int} (h : cur.toList.take l.length = cellsB l) : l.length ≤ cur.size := by
  have := congrArg List.length h
  rw [cellsB_len, List.length_take] at this
  have e : cur.toList.length = cur.size := Array.length_toList
  omega
theorem rByk.cell {w : World} {g : Nat} {l : List Int} (h : rByk w g l) (i : Nat) (hi : i < l.length) : w.cell? ⟨g, i, none⟩ = some (.int .u8 (l.getD i 0)) := by
  obtain ⟨cur, h, k⟩ := h
  rw [cell_of_row w g i _ _ _ h]; exact rByk.at k i hi
theorem rByk.thawed {w : World} {g : Nat} {l : List Int} (h : rByk w g l) (i : Nat) : w.frozen? ⟨g, i, none⟩ = false := by
  obtain ⟨cur, h, k⟩ := h; exact frozen_of_row w g i _ 5 h
theorem rByk.same {w w' : World} {g : Nat} {l : List Int} (h : rByk w g l) (hb : ∀ o, w.heap[g]? = some o → w'.heap[g]? = some o) : rByk w' g l := by
  obtain ⟨cur, h, k⟩ := h; exact ⟨cur, hb _ h, k⟩
theorem rByk.keep {w w' : World} {g : Nat} {l : List Int} (h : rByk w g l) (hb : Below w.heap.size w w') : rByk w' g l := h.same (fun o ho => by rw [hb.block g (rhlt ho)]; exact ho)
theorem rByk.partR {w : World} {g : Nat} {l : List Int} (h : rByk w g l) (hb : AllB l) (o k : Nat) (hf : o + k ≤ l.length) : IsB w (some ⟨g, o, none⟩) ((l.drop o).take k) := by
  refine ⟨(hb.drop o).take k, .inr ⟨g, o, rfl, h.lt, fun i hi => ?_⟩⟩
  simp at hi
  rw [h.cell (o + i) (by omega)]
  simp [List.getD_eq_getElem?_getD, List.getElem?_drop, show i < k by omega]
theorem rByk.isB {w : World} {g : Nat} {l : List Int} (h : rByk w g l) (hb : AllB l) : IsB w (some ⟨g, 0, none⟩) l :=
  ⟨hb, .inr ⟨g, 0, rfl, h.lt, fun i hi => by rw [Nat.zero_add]; exact h.cell i hi⟩⟩
theorem rByk.set {w : World} {g : Nat} {l : List Int} (h : rByk w g l) (i : Nat) (v : Int) (hi : i < l.length) : rByk (w.setCell ⟨g, i, none⟩ (.int .u8 v)) g (l.set i v) := by
  obtain ⟨cur, h, k⟩ := h
  refine ⟨cur.setIfInBounds i (.int .u8 v), heap_setCell_same w g i _ _ (.int .u8 v) h, ?_⟩
  rw [List.length_set, Array.toList_setIfInBounds, List.take_set, k]
  simp [cellsB, List.map_set]
theorem OwnsB.bkR {w : World} {base g : Nat} {l : List Int} {cap : Nat} (h : OwnsB w base (some ⟨g, 0, none⟩) l cap) : rByk w g l := by
  obtain ⟨h0, ⟨h1, _⟩ | ⟨g', c', cur, h1, _, h2, h3, h4, h5, h6⟩⟩ := h
  · cases h1
  · cases h1
    rw [Nat.mul_one] at h6
    exact ⟨cur, h2, h6⟩
/-- So many bytes have been laid. -/
def rmidR (l : List Int) (o : Nat) (bs : List Int) (i : Nat) : List Int := l.take o ++ bs.take i ++ l.drop (o + i)
theorem rmidR_len {l : List Int} {o : Nat} {bs : List Int} {i : Nat} (hi : i ≤ bs.length) (h : o + bs.length ≤ l.length) : (rmidR l o bs i).length = l.length := by
  unfold rmidR; simp; omega
theorem rmidR_zero (l : List Int) (o : Nat) (bs : List Int) : rmidR l o bs 0 = l := by simp [rmidR]
theorem rmidR_full (l : List Int) (o : Nat) (bs : List Int) : rmidR l o bs bs.length = overR l o bs := by simp [rmidR, overR]
theorem rmidR_set {l : List Int} {o : Nat} {bs : List Int} {i : Nat} (hi : i < bs.length) (h : o + bs.length ≤ l.length) : (rmidR l o bs i).set (o + i) (bs.getD i 0) = rmidR l o bs (i + 1) := by
  have e : l.drop (o + i) = l[o + i]'(by omega) :: l.drop (o + i + 1) := List.drop_eq_getElem_cons (by omega)
  have hl : (l.take o ++ bs.take i).length = o + i := by simp; omega
  unfold rmidR
  rw [e, List.set_append_right _ _ (by omega), hl, Nat.sub_self, List.set_cons_zero, List.take_succ_eq_append_getElem hi, ← Nat.add_assoc, List.getD_eq_getElem?_getD, List.getElem?_eq_getElem hi, Option.getD_some, List.append_assoc, List.append_assoc, List.append_assoc]
  rfl

theorem rrget_of (a : Option Addr) (cap n : Nat) (l : List Int) (v : Int) (w : World) (hn : n = l.length) (hv : getL (l.take 8) = v) (h : IsB w a l) (hm : l.length ≤ maxLen) :
    Calls Tryd.prog 48 #[.slice a n cap] w fun e w' => e = .returned (.int .u64 v) ∧ w = w' := by
  subst hn hv; exact rget_any a cap l w h hm
/-- What the document's Apply leaves behind. -/
def ApplyQ (w : World) (R : List Int) (E : Int) (e : Ending) (w' : World) : Prop :=
  ∃ a' c', e = .returned (.tuple #[.slice a' R.length c', .int .i64 E]) ∧ IsB w' a' R ∧ Below w.heap.size w w'
/-- Under way. -/
structure ApB (w wr : World) (b l : List Int) (fr t n : Int) (g k : Nat) : Prop where
  row : rByk wr g (goT fr t b (l.take k) b)
  below : Below w.heap.size w wr
  ge : w.heap.size ≤ g
  all : allT fr n b (l.take k) = true
theorem ApB.stay {w wr : World} {b l : List Int} {fr t n : Int} {g k : Nat} (h : ApB w wr b l fr t n g k) (hk : k < l.length) (h0 : wordT b (l.getD k 0) = 0) : ApB w wr b l fr t n g (k + 1) := by
  refine ⟨?_, h.below, h.ge, ?_⟩
  · rw [goT_take fr t b l b k hk, stepT, if_pos h0]; exact h.row
  · rw [allT_snoc hk, h.all, h0]; simp [inT]
theorem ApB.next {w wr w1 : World} {b l : List Int} {fr t n : Int} {g k : Nat} (h : ApB w wr b l fr t n g k) (hk : k < l.length) (h0 : wordT b (l.getD k 0) ≠ 0) (hin : inT fr n (wordT b (l.getD k 0)))
    (hr : rByk w1 g (overR (goT fr t b (l.take k) b) (l.getD k 0).toNat (putL 8 (wordT b (l.getD k 0) - fr + t)))) (hb : Below w.heap.size wr w1) : ApB w w1 b l fr t n g (k + 1) := by
  refine ⟨?_, h.below.trans hb, h.ge, ?_⟩
  · rw [goT_take fr t b l b k hk, stepT, if_neg h0]; exact hr
  · rw [allT_snoc hk, h.all, decide_eq_true hin]; rfl
set_option maxHeartbeats 4000000 in
/-- The bases or the number may not be. -/
theorem roapply_arg (a al : Option Addr) (c cl : Nat) (b l : List Int) (fr t n : Int) (w : World) (h : ¬ argT fr t n) :
    Calls Tryd.prog 24 #[.slice a b.length c, .slice al l.length cl, .int .i64 fr, .int .i64 t, .int .i64 n] w (ApplyQ w (applyB b l fr t n) (applyE b l fr t n)) := by
  obtain ⟨e1, e2⟩ := apply_arg (b := b) (l := l) h
  rw [e1, e2]
  clear e1 e2
  have FIN : Hid (ApplyQ w [] 2 (.returned (.tuple #[.slice none 0 0, .int .i64 2])) w) := ⟨none, 0, rfl, IsB.nil _ _, Below.refl _ _⟩
  by_cases g1 : goodR fr
  · have G1 : Hid (decide (goodR fr) = true) := decide_eq_true g1
    by_cases g2 : goodR t
    · have G2 : Hid (decide (goodR t) = true) := decide_eq_true g2
      have hn : n < 0 ∨ (0 ≤ n ∧ 1048576 < n) := by
        by_cases q : n < 0
        · exact .inl q
        · refine .inr ⟨by omega, ?_⟩
          by_cases q2 : 1048576 < n
          · exact q2
          · exact absurd ⟨g1, g2, by omega, by omega⟩ h
      clear h g1 g2
      rcases hn with q | ⟨q, q'⟩
      all_goals
        go_enter Tryd.func24, Tryd.ntmps24
        go_wp2_with (first | (go_at_call_of 23 t; refine (rgood_of t true _ G2.out).mono ?_; rintro e w1 ⟨rfl, rfl⟩) | (go_at_call_of 23 fr; refine (rgood_of fr true _ G1.out).mono ?_; rintro e w1 ⟨rfl, rfl⟩))
        go_ret2
        exact FIN.out
    · have G2 : Hid (decide (goodR t) = false) := decide_eq_false g2
      clear h g1 g2
      go_enter Tryd.func24, Tryd.ntmps24
      go_wp2_with (first | (go_at_call_of 23 t; refine (rgood_of t false _ G2.out).mono ?_; rintro e w1 ⟨rfl, rfl⟩) | (go_at_call_of 23 fr; refine (rgood_of fr true _ G1.out).mono ?_; rintro e w1 ⟨rfl, rfl⟩))
      go_ret2
      exact FIN.out
  · have G1 : Hid (decide (goodR fr) = false) := decide_eq_false g1
    clear h g1
    go_enter Tryd.func24, Tryd.ntmps24
    go_wp2_with (go_at_call_of 23 fr; refine (rgood_of fr false _ G1.out).mono ?_; rintro e w1 ⟨rfl, rfl⟩)
    go_ret2
    exact FIN.out
set_option maxHeartbeats 4000000 in
/-- The table may not be. -/
theorem roapply_form (a al : Option Addr) (c cl : Nat) (b l : List Int) (fr t n : Int) (w : World) (h : argT fr t n) (hr : rrightT b.length l = false) (hI : IsI w al l) (hm : l.length ≤ maxLen) (hb : b.length ≤ 140737488355328) :
    Calls Tryd.prog 24 #[.slice a b.length c, .slice al l.length cl, .int .i64 fr, .int .i64 t, .int .i64 n] w (ApplyQ w (applyB b l fr t n) (applyE b l fr t n)) := by
  obtain ⟨e1, e2⟩ := apply_form h hr
  rw [e1, e2]
  clear e1 e2
  have FIN : Hid (ApplyQ w [] 4 (.returned (.tuple #[.slice none 0 0, .int .i64 4])) w) := ⟨none, 0, rfl, IsB.nil _ _, Below.refl _ _⟩
  obtain ⟨g1, g2, n0, n1⟩ := h
  have G1 : Hid (decide (goodR fr) = true) := decide_eq_true g1
  have G2 : Hid (decide (goodR t) = true) := decide_eq_true g2
  have HR : Hid (rrightT b.length l = false) := hr
  have HI : Hid (IsI w al l) := hI
  have HM : Hid (l.length ≤ maxLen) := hm
  have q1 : ¬ n < 0 := by omega
  have q2 : ¬ 1048576 < n := by omega
  clear g1 g2 hr hI hm
  go_enter Tryd.func24, Tryd.ntmps24
  go_wp2_with (first | (go_at_call 47; refine (roright_is al cl _ l _ false _ rfl HR.out HI.out HM.out (by omega)).mono ?_; rintro e w1 ⟨rfl, rfl⟩) | (go_at_call_of 23 t; refine (rgood_of t true _ G2.out).mono ?_; rintro e w1 ⟨rfl, rfl⟩) | (go_at_call_of 23 fr; refine (rgood_of fr true _ G1.out).mono ?_; rintro e w1 ⟨rfl, rfl⟩))
  go_ret2
  exact FIN.out

set_option maxHeartbeats 8000000 in
/-- Word by word. -/
theorem roapply_go (a al : Option Addr) (c cl : Nat) (b l : List Int) (fr t n : Int) (w : World) (h : argT fr t n) (hr : rrightT b.length l = true) (hB : IsB w a b) (hc : b.length ≤ c) (hI : IsI w al l) (hm : l.length ≤ maxLen) (hb : b.length ≤ 140737488355328) :
    Calls Tryd.prog 24 #[.slice a b.length c, .slice al l.length cl, .int .i64 fr, .int .i64 t, .int .i64 n] w (ApplyQ w (applyB b l fr t n) (applyE b l fr t n)) := by
  have ARG : Hid (argT fr t n) := h
  obtain ⟨g1, g2, n0, n1⟩ := h
  have G1 : Hid (decide (goodR fr) = true) := decide_eq_true g1
  have G2 : Hid (decide (goodR t) = true) := decide_eq_true g2
  have HR : Hid (rrightT b.length l = true) := hr
  have HI : Hid (IsI w al l) := hI
  have HB : Hid (IsB w a b) := hB
  have HM : Hid (l.length ≤ maxLen) := hm
  have RIN : Hid (∀ p ∈ l, inB b.length p) := (right_in hr).1
  have q1 : ¬ n < 0 := by omega
  have q2 : ¬ 1048576 < n := by omega
  have hlm : l.length ≤ 8192 := (right_iff.1 hr).1
  unfold goodR at g1 g2
  obtain ⟨f0, f1, _⟩ := g1
  obtain ⟨t0, t1, _⟩ := g2
  have HBL : Hid (b.length ≤ 140737488355328) := hb
  clear hr hI hm hB
  go_enter Tryd.func24, Tryd.ntmps24
  go_wp2_with (first
    | (go_at_call 21; refine (copy_any a c _ b _ rfl HB.out HBL.out).mono ?_; rintro e w1 ⟨g, c1, rfl, o1, b1⟩; have A0 : Hid (ApB w w1 b l fr t n g 0) := ⟨o1.bkR, b1, (by have q := own_ge o1 g rfl; exact q), rfl⟩; clear o1 b1)
    | (go_at_call 47; refine (roright_is al cl _ l _ true _ rfl HR.out HI.out HM.out (by omega)).mono ?_; rintro e w1 ⟨rfl, rfl⟩) | (go_at_call_of 23 t; refine (rgood_of t true _ G2.out).mono ?_; rintro e w1 ⟨rfl, rfl⟩) | (go_at_call_of 23 fr; refine (rgood_of fr true _ G1.out).mono ?_; rintro e w1 ⟨rfl, rfl⟩))
  go_loopw [43] (fun iv wr => ∃ k : Nat, k ≤ l.length ∧ iv = .int .i64 k ∧ ApB w wr b l fr t n g k) (fun iv _ => l.length - (intOf iv).toNat)
  case atStart => exact ⟨0, Nat.zero_le _, rfl, A0.out⟩
  case round =>
    obtain ⟨k, hk, rfl, hA⟩ := hrel
    have HA : Hid (ApB w wr b l fr t n g k) := hA
    by_cases rhlt : k < l.length
    · have hmem : l.getD k 0 ∈ l := by simp [List.getD, rhlt]
      obtain ⟨hin, h0 | ⟨lb, loff, rfl, hsz, hcl⟩⟩ := HI.out.keep hA.below
      · rw [h0] at rhlt; simp at rhlt
      have hcell := hcl k rhlt
      obtain ⟨p0, p1⟩ := RIN.out _ hmem
      obtain ⟨o, ho⟩ : ∃ o : Nat, l.getD k 0 = (o : Int) := ⟨(l.getD k 0).toNat, by omega⟩
      rw [ho] at hcell p0 p1
      have HO : Hid (l.getD k 0 = (o : Int)) := ho
      have IB := HB.out.keep hA.below
      obtain ⟨hbb, h0 | ⟨bb, boff, rfl, hbs, hbc⟩⟩ := HB.out
      · rw [h0] at p1; simp at p1; omega
      have IP : Hid (IsB wr (some ⟨bb, boff + o, none⟩) ((b.drop o).take 8)) := IB.partR o 8
      have HL : Hid (8 = ((b.drop o).take 8).length) := by show _ = _; simp; omega
      obtain ⟨W, hW⟩ : ∃ W, wordT b (o : Int) = W := ⟨_, rfl⟩
      have HV : Hid (getL (((b.drop o).take 8).take 8) = W) := by
        show _ = _
        rw [← hW, wordT, Int.toNat_natCast, List.take_take]
        rfl
      obtain ⟨W0, W1⟩ := wordT_range hbb (o : Int)
      rw [hW] at W0 W1
      have HW : Hid (wordT b (l.getD k 0) = W) := by show _ = _; rw [HO.out, hW]
      have s1 : ¬ ((o : Int) + 8 < (o : Int)) := by omega
      have s2 : (o : Int) + 8 ≤ (c : Int) := by omega
      have p2 : o + 8 ≤ b.length := by omega
      clear hcl hin hsz hmem ho IB hbb hbs hbc hW hA p1
      by_cases w0 : W = 0
      · subst w0
        have NX : Hid (ApB w wr b l fr t n g (k + 1)) := HA.out.stay rhlt HW.out
        go_wp2_with (go_at_call 48; (refine (rrget_of _ _ _ ((b.drop o).take 8) 0 _ (by have := HL.out; omega) HV.out IP.out (by have := HL.out; unfold maxLen; omega)).mono ?_; rintro e w' ⟨rfl, rfl⟩))
        go_roundw
        case rel => exact ⟨k + 1, by omega, by go_num, NX.out⟩
        case measure => simp [intOf]; omega
      · have w0' : (W == 0) = false := by rw [beq_eq_false_iff_ne]; exact w0
        by_cases win : fr ≤ W ∧ W - fr < n
        · have HIN : Hid (decide (fr ≤ W ∧ W - fr < n) = true) := decide_eq_true win
          obtain ⟨wa, wb⟩ := win
          have IIN : Hid (inT fr n (wordT b (l.getD k 0))) := by show inT _ _ _; rw [HW.out]; exact .inr ⟨wa, wb⟩
          have NZ : Hid (wordT b (l.getD k 0) ≠ 0) := by show _ ≠ _; rw [HW.out]; exact w0
          have LG : Hid ((goT fr t b (l.take k) b).length = b.length) := goT_len _ b (fun p hp => RIN.out p (List.mem_of_mem_take hp))
          obtain ⟨cur, hcur⟩ : ∃ cur, goT fr t b (l.take k) b = cur := ⟨_, rfl⟩
          have RC : Hid (rByk wr g cur) := by show rByk _ _ _; rw [← hcur]; exact HA.out.row
          have LC : Hid (cur.length = b.length) := by show _ = _; rw [← hcur]; exact LG.out
          have HCUR : Hid (goT fr t b (l.take k) b = cur) := hcur
          have hgl : g < wr.heap.size := HA.out.row.lt
          have p3 : (o : Int) + 8 ≤ (b.length : Int) := by omega
          have u1 : IntKind.u64.wrap fr = fr := by rw [IntKind.wrap_u64]; omega
          have u2 : IntKind.u64.wrap t = t := by rw [IntKind.wrap_u64]; omega
          have u3 : IntKind.u64.wrap (W - fr) = W - fr := by rw [IntKind.wrap_u64]; omega
          have u4 : IntKind.u64.wrap (W - fr + t) = W - fr + t := by rw [IntKind.wrap_u64]; omega
          have u5 : IntKind.u64.wrap n = n := by rw [IntKind.wrap_u64]; omega
          obtain ⟨P, hP⟩ : ∃ P, putL 8 (W - fr + t) = P := ⟨_, rfl⟩
          have pl : P.length = 8 := by rw [← hP]; exact putT_len _
          have PL : Hid (P.length = 8) := pl
          have PUT : Hid (Calls Tryd.prog 49 #[.int .u64 (W - fr + t), .int .i64 8] wr fun e w' => ∃ a cap, e = .returned (.slice a 8 cap) ∧ IsB w' a P ∧ (∀ ad, a = some ad → wr.heap.size ≤ ad.block) ∧ Below wr.heap.size wr w') := by
            rw [← hP]; exact rrput_is (W - fr + t) 8 8 (by decide) (by omega) (by omega) (by omega) wr
          have FIN : Hid (∀ wz, rByk wz g (rmidR cur o P 8) → Below w.heap.size wr wz → ApB w wz b l fr t n g (k + 1)) := fun wz hz bz => by
            refine HA.out.next rhlt NZ.out IIN.out ?_ bz
            rw [← pl, rmidR_full] at hz
            rw [HW.out, HCUR.out, HO.out, Int.toNat_natCast, hP]
            exact hz
          have ML : Hid (∀ i, i ≤ 8 → (rmidR cur o P i).length = b.length) := fun i hi => by show _ = _; rw [rmidR_len (by omega) (by rw [LC.out]; omega), LC.out]
          have NX : Hid (∀ wz i, i < 8 → rByk wz g (rmidR cur o P i) → rByk (wz.setCell ⟨g, o + i, none⟩ (.int .u8 (P.getD i 0))) g (rmidR cur o P (i + 1))) := fun wz i hi hz => by
            have hr1 := hz.set (o + i) (P.getD i 0) (by rw [ML.out i (by omega)]; omega)
            rw [rmidR_set (by omega) (by rw [LC.out]; omega)] at hr1
            exact hr1
          clear hcur LG pl hP
          go_wp2_with (first
            | (go_at_call 49; refine PUT.out.mono ?_; rintro e w1 ⟨pa, pc, rfl, ib, ab, bw⟩; have IB1 : Hid (IsB w1 pa P) := ib; have AB1 : Hid (∀ ad, pa = some ad → ad.block ≠ g) := (fun ad e => by have := ab ad e; omega); have BW1 : Hid (Below wr.heap.size wr w1) := bw; clear ib ab bw)
            | (go_at_call 48; refine (rrget_of _ _ _ ((b.drop o).take 8) W _ (by have := HL.out; omega) HV.out IP.out (by have := HL.out; unfold maxLen; omega)).mono ?_; rintro e w' ⟨rfl, rfl⟩))
          go_loopw [77] (fun iv wz => ∃ i : Nat, i ≤ 8 ∧ iv = .int .i64 (i : Nat) ∧ rByk wz g (rmidR cur o P i) ∧ Tg g w1 wz) (fun iv _ => 8 - (intOf iv).toNat)
          case atStart => exact ⟨0, Nat.zero_le _, rfl, by rw [rmidR_zero]; exact RC.out.keep BW1.out, Tg.refl g w1⟩
          case round =>
            obtain ⟨i, hi, rfl, hz, ht⟩ := hrel
            rename World => wz
            have HR1 : Hid (rByk wz g (rmidR cur o P i)) := hz
            have HT : Hid (Tg g w1 wz) := ht
            by_cases hlt8 : i < 8
            · have IB := ht.isB IB1.out AB1.out
              obtain ⟨hall, h0 | ⟨pb, off, rfl, hba, hcc⟩⟩ := IB
              · have := PL.out; rw [h0] at this; simp at this
              · have cb := hcc i (by have := PL.out; omega)
                have cg := hz.cell (o + i) (by rw [ML.out i hi]; omega)
                have zg := hz.thawed (o + i)
                obtain ⟨Bv, hBv⟩ : ∃ Bv, P.getD i 0 = Bv := ⟨_, rfl⟩
                have NX2 : Hid (rByk (wz.setCell ⟨g, o + i, none⟩ (.int .u8 Bv)) g (rmidR cur o P (i + 1))) := by show rByk _ _ _; rw [← hBv]; exact NX.out wz i hlt8 hz
                rw [hBv] at cb
                have hlt' : (i : Int) < 8 := by omega
                have v2 : IntKind.i64.wrap ((o : Int) + (i : Int)) = (o : Int) + (i : Int) := by rw [IntKind.wrap_i64]; omega
                have v3 : (o : Int) + (i : Int) < (b.length : Int) := by omega
                have v4 : ((o : Int) + (i : Int)).toNat = o + i := by omega
                have v5 : (0 : Int) ≤ (o : Int) + (i : Int) := by omega
                clear hz ht hall hcc hBv
                go_wp2
                all_goals go_roundw
                case rel => exact ⟨i + 1, by omega, by go_num, NX2.out, HT.out.trans (Tg.ofOnly (Only.set _ _ _ _))⟩
                case measure => simp [intOf]; omega
            · obtain rfl : i = 8 := by omega
              have AEND : Hid (ApB w wz b l fr t n g (k + 1)) := FIN.out wz HR1.out (((BW1.out.mono HA.out.below.size)).trans (HT.out.below HA.out.ge (Nat.le_trans HA.out.below.size BW1.out.size)))
              clear hz ht
              go_wp2
              go_roundw
              case rel => exact ⟨k + 1, by omega, by go_num, AEND.out⟩
              case measure => simp [intOf]; omega
        · obtain ⟨e1, e2⟩ := apply_addr ARG.out HR.out (allT_not rhlt (by rw [HW.out]; unfold inT; omega))
          have HE : Hid (applyB b l fr t n = [] ∧ applyE b l fr t n = 10) := ⟨e1, e2⟩
          have u1 : IntKind.u64.wrap fr = fr := by rw [IntKind.wrap_u64]; omega
          have u5 : IntKind.u64.wrap n = n := by rw [IntKind.wrap_u64]; omega
          have hcs : W < fr ∨ (fr ≤ W ∧ n ≤ W - fr) := by omega
          clear e1 e2 win
          rcases hcs with h1 | ⟨h1, h2⟩
          · go_wp2_with (go_at_call 48; refine (rrget_of _ _ _ ((b.drop o).take 8) W _ (by have := HL.out; omega) HV.out IP.out (by have := HL.out; unfold maxLen; omega)).mono ?_; rintro e w' ⟨rfl, rfl⟩)
            go_ret2
            rw [HE.out.1, HE.out.2]
            exact ⟨none, 0, rfl, IsB.nil _ _, HA.out.below⟩
          · have u3 : IntKind.u64.wrap (W - fr) = W - fr := by rw [IntKind.wrap_u64]; omega
            go_wp2_with (go_at_call 48; refine (rrget_of _ _ _ ((b.drop o).take 8) W _ (by have := HL.out; omega) HV.out IP.out (by have := HL.out; unfold maxLen; omega)).mono ?_; rintro e w' ⟨rfl, rfl⟩)
            go_ret2
            rw [HE.out.1, HE.out.2]
            exact ⟨none, 0, rfl, IsB.nil _ _, HA.out.below⟩
    · obtain rfl : k = l.length := by omega
      have et : l.take l.length = l := List.take_length
      have AL := hA.all
      have RW := hA.row
      rw [et] at AL RW
      obtain ⟨e1, e2⟩ := apply_ok ARG.out HR.out AL
      have LEN : Hid ((goT fr t b l b).length = b.length) := goT_len l b RIN.out
      have ALLG : Hid (AllB (goT fr t b l b)) := goT_all l b HB.out.1
      have RWH : Hid (rByk wr g (goT fr t b l b)) := RW
      have HE : Hid (applyB b l fr t n = goT fr t b l b ∧ applyE b l fr t n = 0) := ⟨e1, e2⟩
      clear et AL RW e1 e2 hA
      go_wp2
      go_ret2
      rw [HE.out.1, HE.out.2]
      exact ⟨some ⟨g, 0, none⟩, c1, by rw [LEN.out]; rfl, RWH.out.isB ALLG.out, HA.out.below⟩

/-- What the document's Apply answers. -/
theorem roapply_any (a al : Option Addr) (c cl : Nat) (b l : List Int) (fr t n : Int) (w : World) (hB : IsB w a b) (hc : b.length ≤ c) (hI : IsI w al l) (hm : l.length ≤ maxLen) (hb : b.length ≤ 140737488355328) :
    Calls Tryd.prog 24 #[.slice a b.length c, .slice al l.length cl, .int .i64 fr, .int .i64 t, .int .i64 n] w (ApplyQ w (applyB b l fr t n) (applyE b l fr t n)) := by
  by_cases h : argT fr t n
  · rcases hr : rrightT b.length l with _ | _
    · exact roapply_form a al c cl b l fr t n w h hr hI hm hb
    · exact roapply_go a al c cl b l fr t n w h hr hB hc hI hm hb
  · exact roapply_arg a al c cl b l fr t n w h
end Go.Proofs.YtbfamjnnlcopiaaDoor
