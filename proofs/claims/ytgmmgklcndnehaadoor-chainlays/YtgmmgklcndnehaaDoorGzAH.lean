/- The document's disk in memory: New. -/
import Derived.Test.YtgmmgklcndnehaaDoorGzAG
import Derived.Test.YtgmmgklcndnehaaDoorChF
import Derived.BigQuiet
namespace Go.Proofs.YtgmmgklcndnehaaDoor
open Go.RowKit Go.Maps
set_option linter.unusedVariables false
set_option maxRecDepth 4000

def rboxC (as0 : Option Addr) (n cs : Nat) (aw : Option Addr) (k cw : Nat) (d : Dk) : Array Value := #[.slice as0 n cs, .slice aw k cw, .int .i64 (max 0 d.left), .bool d.down, .int .i64 (d.ops : Nat)]

/-- The writes that are pending, and where their bytes lie. -/
def zipQ (p : List Wr) (hs : List Nat) : List (Nat × Nat) := (p.map (·.at)).zip hs
structure RefAt (w : World) (base br : Nat) (as0 : Option Addr) (cs : Nat) (gs : List Nat) (aw : Option Addr) (cw : Nat) (hs : List Nat) (ok : Nat → Prop) (d : Dk) : Prop where
  box : w.heap[br]? = some (.cells (rboxC as0 gs.length cs aw d.pend.length cw d) 91 (0, 0))
  sure : RowG w base as0 gs cs
  wait : RowQ w base aw (zipQ d.pend hs) cw
  gl : gs.length = d.n
  hl : hs.length = d.pend.length
  secs : ∀ i (h : i < gs.length), RowB w gs[i] 5 (d.sure i) ∧ ok gs[i]
  pends : ∀ k (h : k < hs.length) (h' : k < d.pend.length), RowB w hs[k] 5 d.pend[k].by ∧ ok hs[k]
  ge : base ≤ br

/-- A disk of the document's, from a base on; ok: where its sectors may lie. -/
def IsR (w : World) (base br : Nat) (ok : Nat → Prop) (d : Dk) : Prop := ∃ as0 cs gs aw cw hs, RefAt w base br as0 cs gs aw cw hs ok d ∧ DkOk d

theorem IsR.ok' {w : World} {base br : Nat} {ok : Nat → Prop} {d : Dk} (h : IsR w base br ok d) : DkOk d := by obtain ⟨_, _, _, _, _, _, _, h⟩ := h; exact h

/-- The document's disk stays while others are written. -/
theorem RefAt.same {w w' : World} {base br cs cw : Nat} {as0 aw : Option Addr} {gs hs : List Nat} {ok : Nat → Prop} {d : Dk} (h : RefAt w base br as0 cs gs aw cw hs ok d)
    (he : ∀ (i : Nat) (o : Obj), w.heap[i]? = some o → KR o = true → w'.heap[i]? = some o) (hs' : ∀ g l, RowB w g 5 l → ok g → RowB w' g 5 l) : RefAt w' base br as0 cs gs aw cw hs ok d :=
  ⟨he _ _ h.box rfl, owns_keepK h.sure (fun _ => rfl) he, owns_keepK h.wait (fun _ => rfl) he, h.gl, h.hl, fun i hi => ⟨hs' _ _ (h.secs i hi).1 (h.secs i hi).2, (h.secs i hi).2⟩, fun k hk hk' => ⟨hs' _ _ (h.pends k hk hk').1 (h.pends k hk hk').2, (h.pends k hk hk').2⟩, h.ge⟩
theorem IsR.same {w w' : World} {base br : Nat} {ok : Nat → Prop} {d : Dk} (h : IsR w base br ok d)
    (he : ∀ (i : Nat) (o : Obj), w.heap[i]? = some o → KR o = true → w'.heap[i]? = some o) (hs' : ∀ g l, RowB w g 5 l → ok g → RowB w' g 5 l) : IsR w' base br ok d := by
  obtain ⟨a, b, c, d', e, f, h, r⟩ := h; exact ⟨a, b, c, d', e, f, h.same he hs', r⟩
theorem IsR.keep {w w' : World} {base br : Nat} {ok : Nat → Prop} {d : Dk} (h : IsR w base br ok d) (hb : Below w.heap.size w w') : IsR w' base br ok d :=
  h.same (fun i o ho _ => by rw [hb.block i (Array.getElem?_eq_some_iff.1 ho).1]; exact ho) (fun g l hr _ => hr.keep hb)
theorem IsR.turn {w w' : World} {base base' br : Nat} {ok : Nat → Prop} {d : Dk} (h : IsR w base br ok d) (ht : Turn base' KC w w') : IsR w' base br ok d :=
  h.same (fun i o ho hk => ht.block i o ho (.inr (by cases o <;> simp_all [KR, KC]; rcases hk with (rfl | rfl) | rfl <;> decide))) (fun g l hr _ => hr.turn ht rfl)
theorem IsR.drew {w : World} {base br : Nat} {ok : Nat → Prop} {d : Dk} (h : IsR w base br ok d) : IsR w.drew base br ok d := h.same (fun _ _ ho _ => ho) (fun _ _ hr _ => hr)
theorem IsR.drewN {w : World} {base br : Nat} {ok : Nat → Prop} {d : Dk} (h : IsR w base br ok d) (m : Nat) : IsR (w.drewN m) base br ok d := h.same (fun _ _ ho _ => ho) (fun _ _ hr _ => hr)
theorem IsR.mono {w : World} {base br : Nat} {ok ok' : Nat → Prop} {d : Dk} (h : IsR w base br ok d) (hk : ∀ g, g < w.heap.size → ok g → ok' g) : IsR w base br ok' d := by
  obtain ⟨a, b, c, d', e, f, h, r⟩ := h
  exact ⟨a, b, c, d', e, f, ⟨h.box, h.sure, h.wait, h.gl, h.hl, fun i hi => ⟨(h.secs i hi).1, hk _ (h.secs i hi).1.lt (h.secs i hi).2⟩, fun k hk' hk'' => ⟨(h.pends k hk' hk'').1, hk _ (h.pends k hk' hk'').1.lt (h.pends k hk' hk'').2⟩, h.ge⟩, r⟩
/-- Under way: so many sectors are there. -/
structure Making (w wr : World) (k : Nat) (as0 : Option Addr) (cs : Nat) (gs : List Nat) : Prop where
  len : gs.length = k
  box : wr.heap[w.heap.size]? = some (.cells (rboxC as0 gs.length cs none 0 0 (newD 0)) 91 (0, 0))
  sure : RowG wr w.heap.size as0 gs cs
  secs : ∀ g ∈ gs, RowB wr g 5 zeros ∧ w.heap.size ≤ g
  below : Below w.heap.size w wr

theorem Making.done {w wr : World} {n cs base : Nat} {as0 : Option Addr} {gs : List Nat} {ok : Nat → Prop} (h : Making w wr n as0 cs gs) (hn : n ≤ 65536) (hb : base ≤ w.heap.size) (hok : ∀ g, w.heap.size ≤ g → ok g) : IsR wr base w.heap.size ok (newD n) := by
  refine ⟨as0, cs, gs, none, 0, [], ⟨h.box, ?_, rowQ_nil _ _, h.len, rfl, fun i hi => ⟨(h.secs _ (List.getElem_mem hi)).1, hok _ (h.secs _ (List.getElem_mem hi)).2⟩, fun k hk => by (simp at hk), hb⟩, newD_ok hn⟩
  obtain ⟨h0, h1 | ⟨g, c', cur, h1, hg, h2⟩⟩ := h.sure
  · exact ⟨h0, .inl h1⟩
  · exact ⟨h0, .inr ⟨g, c', cur, h1, by omega, h2⟩⟩

end Go.Proofs.YtgmmgklcndnehaaDoor

/- What the document's Arm, fails and Read answer. -/
namespace Go.Proofs.YtgmmgklcndnehaaDoor
open Go.RowKit Go.Maps
set_option linter.unusedVariables false
set_option maxRecDepth 4000

theorem RefAt.cell {w : World} {base br cs cw : Nat} {as0 aw : Option Addr} {gs hs : List Nat} {ok : Nat → Prop} {d : Dk} (h : RefAt w base br as0 cs gs aw cw hs ok d) (j : Nat) : w.cell? ⟨br, j, none⟩ = (rboxC as0 gs.length cs aw d.pend.length cw d)[j]? := cell_of_row w br j _ _ _ h.box
theorem RefAt.thawed {w : World} {base br cs cw : Nat} {as0 aw : Option Addr} {gs hs : List Nat} {ok : Nat → Prop} {d : Dk} (h : RefAt w base br as0 cs gs aw cw hs ok d) (j : Nat) : w.frozen? ⟨br, j, none⟩ = false := frozen_of_row w br j _ _ h.box

theorem owns_else {w w' : World} {base n s br : Nat} {e : TypeId} {v : Value} {xs : List Value} {cs : Array Value} {t : TypeId} (h : w.ownsRow base e s v n xs) (hb : w.heap[br]? = some (.cells cs t (0, 0))) (hte : t ≠ e) (he : ∀ i, i ≠ br → w'.heap[i]? = w.heap[i]?) : w'.ownsRow base e s v n xs := by
  obtain ⟨h0, h1 | ⟨g, c', cur, h1, hg, h2, h3⟩⟩ := h
  · exact ⟨h0, .inl h1⟩
  · exact ⟨h0, .inr ⟨g, c', cur, h1, hg, by rw [he g (fun e => by subst e; rw [hb] at h2; simp at h2; exact hte h2.2)]; exact h2, h3⟩⟩
theorem RowB.else' {w w' : World} {g br : Nat} {t t' : TypeId} {l : List Int} {cs : Array Value} (h : RowB w g t l) (hb : w.heap[br]? = some (.cells cs t' (0, 0))) (hte : t' ≠ t) (he : ∀ i, i ≠ br → w'.heap[i]? = w.heap[i]?) : RowB w' g t l := by
  show w'.heap[g]? = _
  rw [he g (fun e => by subst e; rw [show w.heap[g]? = _ from h] at hb; simp at hb; exact hte hb.2.symm)]
  exact h

theorem IsR.field {w w' : World} {base br : Nat} {ok : Nat → Prop} {d d' : Dk} (h : IsR w base br ok d) (hp : d'.pend = d.pend) (hn : d'.n = d.n) (hs : d'.sure = d.sure) (hok : DkOk d')
    (hb : ∀ as0 n cs aw k cw, w.heap[br]? = some (.cells (rboxC as0 n cs aw k cw d) 91 (0, 0)) → w'.heap[br]? = some (.cells (rboxC as0 n cs aw k cw d') 91 (0, 0))) (he : ∀ i, i ≠ br → w'.heap[i]? = w.heap[i]?) : IsR w' base br ok d' := by
  obtain ⟨as0, cs, gs, aw, cw, hss, h, _⟩ := h
  refine ⟨as0, cs, gs, aw, cw, hss, ⟨?_, owns_else h.sure h.box (by decide) he, ?_, h.gl.trans hn.symm, by rw [hp]; exact h.hl, fun i hi => ?_, fun k hk hk' => ?_, h.ge⟩, hok⟩
  · rw [hp]; exact hb _ _ _ _ _ _ h.box
  · rw [hp]; exact owns_else h.wait h.box (by decide) he
  · rw [hs]; exact ⟨(h.secs i hi).1.else' h.box (by decide) he, (h.secs i hi).2⟩
  · have hk2 : k < d.pend.length := by rw [← hp]; exact hk'
    have := h.pends k hk hk2
    simp only [hp]
    exact ⟨this.1.else' h.box (by decide) he, this.2⟩
theorem ret_bool {a b : Bool} (h : a = b) : Ending.returned (.bool a) = .returned (.bool b) := by rw [h]

end Go.Proofs.YtgmmgklcndnehaaDoor

/- Layer 19: numbers held against numbers (Ints); writes that go to a disk. -/
namespace Go.Proofs.YtgmmgklcndnehaaDoor
open Go.RowKit Go.Maps
set_option linter.unusedVariables false
set_option maxRecDepth 4000

theorem ints_any (a a' : Option Addr) (n n' cap cap' : Nat) (l l' : List Int) (w : World) (h : IsI w a l) (h' : IsI w a' l') (hn : n = l.length) (hn' : n' = l'.length) (hm : l.length ≤ maxLen) (hm' : l'.length ≤ maxLen) :
    Calls Tryd.prog 17 #[.slice a n cap, .slice a' n' cap'] w fun e w' => e = .returned (.bool (decide (l = l'))) ∧ Below w.heap.size w w' := by
  subst hn hn'
  have H1 : Hid (IsI w a l) := h
  have H2 : Hid (IsI w a' l') := h'
  unfold maxLen at hm hm'
  clear h h'
  by_cases hll : l.length = l'.length
  · have HLL : Hid (l.length = l'.length) := hll
    rw [← hll]
    clear hll
    go_enter Tryd.func17, Tryd.ntmps17
    go_wp2
    go_loopw [13] (fun iv wr => ∃ k m : Nat, k ≤ l.length ∧ iv = .int .i64 k ∧ wr = w.drewN m ∧ l.take k = l'.take k) (fun iv _ => l.length - (intOf iv).toNat)
    case atStart => exact ⟨0, 0, Nat.zero_le _, rfl, rfl, rfl⟩
    case round =>
      obtain ⟨k, m, hk, rfl, rfl, ht⟩ := hrel
      have HT : Hid (l.take k = l'.take k) := ht
      clear ht
      by_cases hlt : k < l.length
      · obtain ⟨_, h0 | ⟨b1, o1, rfl, _, c1⟩⟩ := H1.out
        · rw [h0] at hlt; simp at hlt
        have hlt' : k < l'.length := by have := HLL.out; omega
        obtain ⟨_, h0 | ⟨b2, o2, rfl, _, c2⟩⟩ := H2.out
        · rw [h0] at hlt'; simp at hlt'
        have d1 := c1 k hlt
        have d2 := c2 k hlt'
        have T1 : Hid (l.take (k + 1) = l.take k ++ [l.getD k 0]) := by show _ = _; rw [List.take_succ_eq_append_getElem hlt]; simp [List.getD, hlt]
        have T2 : Hid (l'.take (k + 1) = l'.take k ++ [l'.getD k 0]) := by show _ = _; rw [List.take_succ_eq_append_getElem hlt']; simp [List.getD, hlt']
        obtain ⟨y, hy⟩ : ∃ y, l.getD k 0 = y := ⟨_, rfl⟩
        obtain ⟨y', hy'⟩ : ∃ y', l'.getD k 0 = y' := ⟨_, rfl⟩
        rw [hy] at d1
        rw [hy'] at d2
        have HY : Hid (l.getD k 0 = y) := hy
        have HY' : Hid (l'.getD k 0 = y') := hy'
        clear c1 c2 hy hy' hlt'
        by_cases he : y = y'
        · subst he
          have NX : Hid (l.take (k + 1) = l'.take (k + 1)) := by show _ = _; rw [T1.out, T2.out, HT.out, HY.out, HY'.out]
          go_wp2_with fail
          go_quiet (fail)
          go_wp2
          go_roundw
          case rel => exact ⟨k + 1, m + nq, by omega, by go_num, rfl, NX.out⟩
          case measure => simp [intOf]; omega
        · have hq : (y != y') = true := by rw [bne_iff_ne]; exact he
          have NE : Hid (decide (l = l') = false) := decide_eq_false (fun e => he (by rw [← HY.out, ← HY'.out, e]))
          clear he
          go_wp2_with fail
          go_quiet (fail)
          go_wp2
          go_ret
          exact ⟨ret_bool NE.out.symm, ⟨rfl, rfl, rfl, Nat.le_refl _, fun _ _ => rfl⟩⟩
      · have EQ : Hid (decide (l = l') = true) := decide_eq_true (by
          have := HT.out
          rwa [List.take_of_length_le (by omega), List.take_of_length_le (by have := HLL.out; omega)] at this)
        go_wp2
        go_ret
        exact ⟨ret_bool EQ.out.symm, ⟨rfl, rfl, rfl, Nat.le_refl _, fun _ _ => rfl⟩⟩
  · have NE : Hid (decide (l = l') = false) := decide_eq_false (fun e => hll (by rw [e]))
    have hq : ((l.length : Int) != (l'.length : Int)) = true := by rw [bne_iff_ne]; omega
    have hni : ¬ (l.length : Int) = (l'.length : Int) := by omega
    go_enter Tryd.func17, Tryd.ntmps17
    go_wp2
    go_ret
    exact ⟨ret_bool NE.out.symm, Below.refl _ _⟩
theorem ints_same (a a' : Option Addr) (n n' cap cap' : Nat) (l : List Int) (w : World) (h : IsI w a l) (h' : IsI w a' l) (hn : n = l.length) (hn' : n' = l.length) (hm : l.length ≤ maxLen) :
    Calls Tryd.prog 17 #[.slice a n cap, .slice a' n' cap'] w fun e w' => e = .returned (.bool true) ∧ Below w.heap.size w w' := by
  have q := ints_any a a' n n' cap cap' l l w h h' hn hn' hm hm
  rwa [decide_eq_true rfl] at q
theorem WrB.turn {w w' : World} {B N g n k : Nat} {ws : List (Int × List Int)} (h : WrB w N g n k ws) (t : Turn B KC w w') : WrB w' N g n k ws := by
  obtain ⟨cs, h1, h2⟩ := h.row
  have h1' := t.block g _ h1 (.inr rfl)
  refine ⟨⟨cs, h1', h2⟩, h.ge, h.len, fun i hi hk => ?_⟩
  obtain ⟨a1, q, a2, a3, a4⟩ := h.at i hi hk
  rw [cell_of_row w g _ _ _ _ h1] at a1 a3
  exact ⟨by rw [cell_of_row w' g _ _ _ _ h1']; exact a1, q, a2, by rw [cell_of_row w' g _ _ _ _ h1']; exact a3, a4.turn t rfl⟩
/-- One write more goes to the disk. -/
theorem wr_step (base b m k : Nat) (d : Dk) (ws : List (Int × List Int)) (w : World) (p : Nat) (h : IsD w base b m (wrD d ws k)) (hbase : base ≤ w.heap.size) (hk : k < ws.length) (hd : d.down = false) (hl : d.left = 0) (h1 : 0 ≤ ws[k].1) (h2 : ws[k].1 < d.n) (h3 : ws[k].2.length = 64) (hR : RowB w p 5 ws[k].2) (hall : AllB ws[k].2) (hm : m < 1000000) (ho : d.ops + k ≤ 1000000000) :
    Calls Tryd.prog 30 #[.pointer (some ⟨b, 0, none⟩), .int .i64 ws[k].1, .slice (some ⟨p, 0, none⟩) 64 64] w fun e w' => e = .returned (.int .i64 0) ∧ IsD w' base b (m + 1) (wrD d ws (k + 1)) ∧ Turn base KC w w' := by
  obtain ⟨e1, e2⟩ := wrD_next hk hd hl h1 h2 h3
  have q := write_any base b m (wrD d ws k) ws[k].1 (some ⟨p, 0, none⟩) 64 64 ws[k].2 w h hbase h3.symm (hR.isB hall) hm ho
  rw [e1, e2] at q
  exact q
theorem wrC_ok {b l : List Int} (hb : AllB b) (ha : apC l = true) {k : Nat} (hk : k < (wrC b l).length) : 1 ≤ (wrC b l)[k].1 ∧ (wrC b l)[k].1 ∈ l ∧ (wrC b l)[k].2.length = 64 ∧ AllB (wrC b l)[k].2 := by
  have hi : k < l.length := by rw [wrC_len] at hk; exact hk
  rw [wrC_at]
  have e : l.getD k 0 = l[k] := getD_at hi
  refine ⟨?_, ?_, secC_len (pcC_le b k) _, secC_allB (pcC_allB hb k) _⟩
  · show 1 ≤ l.getD k 0
    rw [e]; exact ((apC_iff.1 ha).1 _ (List.getElem_mem hi)).1
  · show l.getD k 0 ∈ l
    rw [e]; exact List.getElem_mem hi
/-- The loop's own variable. -/
def varW (w : World) (s : Int) (q : Nat) : World := w.alloc (.cells #[.int .i64 s, .slice (some ⟨q, 0, none⟩) 64 64] 37)
theorem varW_below (w : World) (s : Int) (q : Nat) : Below w.heap.size w (varW w s q) := (Below.refl _ w).alloc (Nat.le_refl _) _
end Go.Proofs.YtgmmgklcndnehaaDoor
