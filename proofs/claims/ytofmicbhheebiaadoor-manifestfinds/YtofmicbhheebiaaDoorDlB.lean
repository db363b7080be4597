/- What the document's Write answers. -/
import Derived.Test.YtofmicbhheebiaaDoorDlA
namespace Go.Proofs.YtofmicbhheebiaaDoor
open Go.RowKit Go.Maps
set_option linter.unusedVariables false
set_option maxRecDepth 4000

theorem rwrite_bad (base br : Nat) (ok : Nat → Prop) (d : Dk) (i : Int) (a : Option Addr) (n cap : Nat) (w : World) (h : IsR w base br ok d) (hc : closedE d i ≠ 0) :
    Calls Tryd.prog 8 #[.pointer (some ⟨br, 0, none⟩), .int .i64 i, .slice a n cap] w fun e w' => e = .returned (.int .i64 (closedE d i)) ∧ w = w' := by
  obtain ⟨as0, cs', gs, aw, cw, hss, h, _⟩ := h
  have h0 : w.cell? ⟨br, 0, none⟩ = some (.slice as0 gs.length cs') := h.cell 0
  have h3 : w.cell? ⟨br, 3, none⟩ = some (.bool d.down) := h.cell 3
  have hg := h.gl
  rw [hg] at h0
  clear h
  cases hd : d.down
  · rw [hd] at h3
    have E : closedE d i = 2 := by
      unfold closedE at hc ⊢
      rw [hd] at hc ⊢
      simp at hc ⊢
      exact hc
    have hr : i < 0 ∨ (¬ i < 0 ∧ (d.n : Int) ≤ i) := by
      unfold closedE at hc; rw [hd] at hc; simp at hc; omega
    rw [E]
    clear hc hd E hg
    rcases hr with hr | ⟨hr, hr2⟩
    all_goals
      go_enter Tryd.func8, Tryd.ntmps8
      go_wp2
      go_ret
      exact ⟨rfl, rfl⟩
  · rw [hd] at h3
    have E : closedE d i = 14 := by simp [closedE, hd]
    rw [E]
    clear hc hd E hg
    go_enter Tryd.func8, Tryd.ntmps8
    go_wp2
    go_ret
    exact ⟨rfl, rfl⟩

theorem rwrite_long (base br : Nat) (ok : Nat → Prop) (d : Dk) (i : Int) (a : Option Addr) (n cap : Nat) (w : World) (h : IsR w base br ok d) (hc : closedE d i = 0) (hn : 64 < n) :
    Calls Tryd.prog 8 #[.pointer (some ⟨br, 0, none⟩), .int .i64 i, .slice a n cap] w fun e w' => e = .returned (.int .i64 6) ∧ w = w' := by
  obtain ⟨hd, hi0, hi1⟩ := closedE_zero.1 hc
  obtain ⟨as0, cs', gs, aw, cw, hss, h, _⟩ := h
  have h0 : w.cell? ⟨br, 0, none⟩ = some (.slice as0 gs.length cs') := h.cell 0
  have h3 : w.cell? ⟨br, 3, none⟩ = some (.bool d.down) := h.cell 3
  have hg := h.gl
  rw [hg] at h0
  rw [hd] at h3
  have n1 : ¬ i < 0 := by omega
  have n2 : ¬ (d.n : Int) ≤ i := by omega
  clear h hc hg
  go_enter Tryd.func8, Tryd.ntmps8
  go_wp2
  go_ret
  exact ⟨rfl, rfl⟩

theorem RefAt.pushed {w W w3 : World} {base br cs cw k c3 q : Nat} {as0 aw a3 : Option Addr} {gs hs : List Nat} {ok : Nat → Prop} {d : Dk} {l : List Int} (h : RefAt w base br as0 cs gs aw cw hs ok d) (hb : Below w.heap.size w W)
    (hg : W.grownBy w3 (Value.slice aw d.pend.length cw).ownBlock) (r3 : RowQ w3 base a3 (zipQ d.pend hs ++ [(k, q)]) c3) (hq : RowB W q 5 (secL l)) (hok : ok q) :
    RefAt (w3.setCell ⟨br, 1, none⟩ (.slice a3 (d.pend.length + 1) c3)) base br as0 cs gs a3 c3 (hs ++ [q]) ok (pushD d k l) ∧ w3.heap[br]? = some (.cells (rboxC as0 gs.length cs aw d.pend.length cw d) 70 (0, 0)) ∧ Turn base KR w (w3.setCell ⟨br, 1, none⟩ (.slice a3 (d.pend.length + 1) c3)) := by
  have keepW : ∀ (i : Nat) (o : Obj), w.heap[i]? = some o → W.heap[i]? = some o := fun i o ho => by rw [hb.block i (Array.getElem?_eq_some_iff.1 ho).1]; exact ho
  have hwait : RowQ W base aw (zipQ d.pend hs) cw := owns_keepK (K := fun _ => true) h.wait (fun _ => rfl) (fun i o ho _ => keepW i o ho)
  have hkq := owns_kind (zipQ_len h.hl).symm hwait
  have hN : ∀ (j : Nat) (o : Obj), W.heap[j]? = some o → (∀ cur, o ≠ .cells cur 79 (0, 0)) → w3.heap[j]? = some o := fun j o ho hne => by
    rw [hg.block j (Array.getElem?_eq_some_iff.1 ho).1 (fun e => by
      obtain ⟨_, cur, hc⟩ := hkq j e.symm
      rw [ho] at hc
      cases hc
      exact hne cur rfl)]
    exact ho
  have hbx3 := hN br _ (keepW _ _ h.box) (fun cur e => by simp at e)
  have hel := set_else w3 br 1 (.slice a3 (d.pend.length + 1) c3)
  have hrow : ∀ g l', RowB W g 5 l' → RowB (w3.setCell ⟨br, 1, none⟩ (.slice a3 (d.pend.length + 1) c3)) g 5 l' := fun g l' hr => RowB.else' (hN g _ hr (fun cur e => by simp at e)) hbx3 (by decide) hel
  refine ⟨⟨?_, ?_, ?_, h.gl, by simp [pushD, h.hl], fun i hi => ?_, fun j hj hj' => ?_, h.ge⟩, hbx3, ?_⟩
  · exact set_same _ _ _ _ _ _ _ hbx3 (by simp [rboxC, pushD])
  · have h1 : RowG W base as0 gs cs := owns_keepK (K := fun _ => true) h.sure (fun _ => rfl) (fun i o ho _ => keepW i o ho)
    have h2 : RowG w3 base as0 gs cs := by
      obtain ⟨e0, e1 | ⟨g, c', cur, e1, eg, e2, e3⟩⟩ := h1
      · exact ⟨e0, .inl e1⟩
      · exact ⟨e0, .inr ⟨g, c', cur, e1, eg, hN g _ e2 (fun cur' e => by simp at e), e3⟩⟩
    exact owns_else h2 hbx3 (by decide) hel
  · show RowQ _ base a3 (zipQ (d.pend ++ [⟨k, secL l⟩]) (hs ++ [q])) c3
    rw [zipQ_snoc _ _ h.hl]
    exact owns_else r3 hbx3 (by decide) hel
  · exact ⟨hrow _ _ ((h.secs i hi).1.keep hb), (h.secs i hi).2⟩
  · have hjl : j < hs.length + 1 := by simpa using hj
    have hj2 : j < (d.pend ++ [(⟨k, secL l⟩ : Wr)]).length := hj'
    show RowB _ (hs ++ [q])[j] 5 ((d.pend ++ [(⟨k, secL l⟩ : Wr)])[j]'hj2).by ∧ ok (hs ++ [q])[j]
    by_cases e : j < hs.length
    · have e' : j < d.pend.length := by rw [← h.hl]; exact e
      rw [List.getElem_append_left e, List.getElem_append_left e']
      exact ⟨hrow _ _ ((h.pends j e e').1.keep hb), (h.pends j e e').2⟩
    · obtain rfl : j = hs.length := by omega
      have e2 : ((d.pend ++ [(⟨k, secL l⟩ : Wr)])[hs.length]'hj2).by = secL l := by simp [h.hl]
      rw [e2]
      simp only [List.getElem_append_right (Nat.le_refl _), Nat.sub_self, List.getElem_cons_zero]
      exact ⟨hrow _ _ hq, hok⟩
  · refine ((Turn.ofBelow hb).trans (Turn.ofGrown hg (fun j hj => ?_))).trans (rset_turn hbx3 h.ge)
    obtain ⟨h1, cur, h2⟩ := hkq j hj
    exact ⟨h1, fun o ho => by rw [h2] at ho; cases ho; rfl⟩

theorem wp_by_run {o : Oper} {a : Act} {K : Act → World → Prop} {Q : Exit → Act → World → Prop} {w w' : World} {v : Value} (hr : (execOp a.eval o).run Tryd.prog w = .ok (.value v) w') (h : K (a.put o.dst v) w') : o.wp Tryd.prog a w K Q := by
  unfold Oper.wp
  rw [hr]
  exact h
theorem wp_by_skip {o : Oper} {a : Act} {K : Act → World → Prop} {Q : Exit → Act → World → Prop} {w w' : World} (hr : (execOp a.eval o).run Tryd.prog w = .ok .skip w') (h : K (a.put o.dst undef) w') : o.wp Tryd.prog a w K Q := by
  unfold Oper.wp
  rw [hr]
  exact h

/-! The operations of 'd.Wait = append(d.Wait, Pend{i, sector(b)})', whose order the model draws. -/
def r70 : Oper := { dst := some 25, op := Op.move (Operand.tmp 0), type := 30, pos := "ref.go:96", after := #[], guard := none }
def r71 : Oper := { dst := some 26, op := Op.move (Operand.tmp 0), type := 30, pos := "ref.go:96", after := #[], guard := none }
def r72 : Oper := { dst := some 27, op := Op.nilCheck (Operand.tmp 26), type := 0, pos := "ref.go:96", after := #[{ on := 1, ground := Ground.data }], guard := none }
def r73 : Oper := { dst := some 28, op := Op.fieldAddr 70 (Operand.tmp 27) 1, type := 0, pos := "ref.go:96", after := #[{ on := 2, ground := Ground.data }], guard := none }
def r74 : Oper := { dst := some 29, op := Op.load 68 (Operand.tmp 28), type := 68, pos := "ref.go:96", after := #[{ on := 3, ground := Ground.data }], guard := none }
def r75 : Oper := { dst := some 30, op := Op.move (Operand.tmp 1), type := 3, pos := "ref.go:96", after := #[], guard := none }
def r76 : Oper := { dst := some 31, op := Op.move (Operand.tmp 2), type := 22, pos := "ref.go:96", after := #[], guard := none }
def r77 : Oper := { dst := some 32, op := Op.call { callee := Callee.value (Operand.func 21), args := #[Operand.tmp 31], argTypes := #[22] }, type := 22, pos := "ref.go:96", after := #[{ on := 6, ground := Ground.data }], guard := none }
def r78 : Oper := { dst := some 33, op := Op.build 79 #[(0, Operand.tmp 30), (1, Operand.tmp 32)], type := 79, pos := "ref.go:96", after := #[{ on := 5, ground := Ground.data }, { on := 7, ground := Ground.data }], guard := none }
def r79 : Oper := { dst := some 34, op := Op.buildSlice 68 1 #[(0, Operand.tmp 33)], type := 68, pos := "ref.go:96", after := #[{ on := 8, ground := Ground.data }], guard := none }
def r710 : Oper := { dst := some 35, op := Op.call { callee := Callee.builtin Builtin.append, args := #[Operand.tmp 29, Operand.tmp 34], argTypes := #[68, 68] }, type := 68, pos := "ref.go:96", after := #[{ on := 4, ground := Ground.data }, { on := 9, ground := Ground.data }, { on := 7, ground := Ground.chain }], guard := none }
def r711 : Oper := { dst := some 36, op := Op.nilCheck (Operand.tmp 25), type := 0, pos := "ref.go:96", after := #[{ on := 0, ground := Ground.data }, { on := 0, ground := Ground.phase }, { on := 1, ground := Ground.phase }, { on := 2, ground := Ground.phase }, { on := 3, ground := Ground.phase }, { on := 4, ground := Ground.phase }, { on := 5, ground := Ground.phase }, { on := 6, ground := Ground.phase }, { on := 7, ground := Ground.phase }, { on := 8, ground := Ground.phase }, { on := 9, ground := Ground.phase }, { on := 10, ground := Ground.phase }], guard := none }
def r712 : Oper := { dst := some 37, op := Op.fieldAddr 70 (Operand.tmp 36) 1, type := 0, pos := "ref.go:96", after := #[{ on := 11, ground := Ground.data }, { on := 0, ground := Ground.phase }, { on := 1, ground := Ground.phase }, { on := 2, ground := Ground.phase }, { on := 3, ground := Ground.phase }, { on := 4, ground := Ground.phase }, { on := 5, ground := Ground.phase }, { on := 6, ground := Ground.phase }, { on := 7, ground := Ground.phase }, { on := 8, ground := Ground.phase }, { on := 9, ground := Ground.phase }, { on := 10, ground := Ground.phase }], guard := none }
def r713 : Oper := { dst := none, op := Op.store 68 (Operand.tmp 37) (Operand.tmp 35), type := 0, pos := "ref.go:96", after := #[{ on := 12, ground := Ground.data }, { on := 10, ground := Ground.data }, { on := 10, ground := Ground.chain }, { on := 0, ground := Ground.phase }, { on := 1, ground := Ground.phase }, { on := 2, ground := Ground.phase }, { on := 3, ground := Ground.phase }, { on := 4, ground := Ground.phase }, { on := 5, ground := Ground.phase }, { on := 6, ground := Ground.phase }, { on := 7, ground := Ground.phase }, { on := 8, ground := Ground.phase }, { on := 9, ground := Ground.phase }, { on := 10, ground := Ground.phase }], guard := none }

set_option maxHeartbeats 4000000 in
theorem rwrite_open (base br : Nat) (ok : Nat → Prop) (d : Dk) (i : Int) (a : Option Addr) (n cap : Nat) (l : List Int) (w : World) (h : IsR w base br ok d) (hbase : base ≤ w.heap.size) (hnew : ∀ g, w.heap.size ≤ g → ok g) (hn : n = l.length) (hB : IsB w a l) (hc : closedE d i = 0) (hl : l.length ≤ 64) (hpl : d.pend.length ≤ 900000) (ho : d.ops ≤ 1000000000) :
    Calls Tryd.prog 8 #[.pointer (some ⟨br, 0, none⟩), .int .i64 i, .slice a n cap] w fun e w' => e = .returned (.int .i64 (workE d)) ∧ IsR w' base br ok (workD (pushD d i.toNat l)) ∧ Turn base KR w w' := by
  obtain ⟨hd, hi0, hi1⟩ := closedE_zero.1 hc
  have hok := h.ok'
  have few := hok.few
  obtain ⟨k, rfl⟩ : ∃ k : Nat, i = k := ⟨i.toNat, by omega⟩
  rw [Int.toNat_natCast]
  have HP : Hid (DkOk (pushD d k l)) := pushD_ok hok (by omega) hl hB.1
  obtain ⟨as0, cs, gs, aw, cw, hs, h, _⟩ := h
  have HA : Hid (RefAt w base br as0 cs gs aw cw hs ok d) := h
  have h0 : w.cell? ⟨br, 0, none⟩ = some (.slice as0 gs.length cs) := h.cell 0
  have h1 : w.cell? ⟨br, 1, none⟩ = some (.slice aw d.pend.length cw) := h.cell 1
  have h3 : w.cell? ⟨br, 3, none⟩ = some (.bool d.down) := h.cell 3
  rw [hd] at h3
  rw [h.gl] at h0
  have hbw : br < w.heap.size := (Array.getElem?_eq_some_iff.1 h.box).1
  have HB : Hid (IsB w a l) := hB
  have HN : Hid (n = l.length) := hn
  have hn64 : n ≤ 64 := by omega
  have OKN : Hid (∀ g, w.heap.size ≤ g → ok g) := hnew
  have S1 : Hid (Calls Tryd.prog 21 #[.slice a n cap] w.drew fun e w' => e = .returned (.slice (some ⟨w.heap.size, 0, none⟩) 64 64) ∧ RowB w' w.heap.size 5 (secL l) ∧ Below w.heap.size w w') := by
    refine (rsector_any a n cap l w.drew hn hB hl).mono ?_
    rintro e w' ⟨rfl, r, b⟩
    exact ⟨rfl, r, ⟨b.os, b.tape, b.output, b.size, b.block⟩⟩
  have HD : Hid (d.down = false) := hd
  have HO : Hid (d.ops ≤ 1000000000) := ho
  have n1 : ¬ (k : Int) < 0 := by omega
  have n2 : ¬ (d.n : Int) ≤ (k : Int) := by omega
  clear h hc hok hd hB hn hnew hl
  have WE : Hid (workE d = if d.left = 1 then 14 else 0) := rfl
  obtain ⟨E, hE⟩ : ∃ E, workE d = E := ⟨_, rfl⟩
  rw [hE] at WE ⊢
  clear hE
  go_enter Tryd.func8, Tryd.ntmps8
  go_wp2_with fail
  refine wp_region_held_drew (S := fun _ => True) (by kernel_rfl) trivial (fun _ => ?_)
  refine wpAnyH_take (i := 0) (oi := r70) (v := .pointer (some ⟨br, 0, none⟩)) rfl (by kernel_rfl) (by kernel_rfl) (by kernel_rfl) (fun _ _ _ h => h) (.inl ⟨rfl, fun _ _ => rfl⟩) trivial ?_
  simp only [r70, Act.put, List.setIfInBounds_toArray, List.set_cons_succ, List.set_cons_zero]
  refine wpAnyH_take (i := 1) (oi := r71) (v := .pointer (some ⟨br, 0, none⟩)) rfl (by kernel_rfl) (by kernel_rfl) (by kernel_rfl) (fun _ _ _ h => h) (.inl ⟨rfl, fun _ _ => rfl⟩) trivial ?_
  simp only [r71, Act.put, List.setIfInBounds_toArray, List.set_cons_succ, List.set_cons_zero]
  refine wpAnyH_take (i := 2) (oi := r72) (v := .pointer (some ⟨br, 0, none⟩)) rfl (by kernel_rfl) (by kernel_rfl) (by kernel_rfl) (fun _ _ _ h => h) (.inl ⟨rfl, by intro wz hz; clear hz; unfold r72; go_simp⟩) trivial ?_
  simp only [r72, Act.put, List.setIfInBounds_toArray, List.set_cons_succ, List.set_cons_zero]
  refine wpAnyH_take (i := 3) (oi := r73) (v := .pointer (some ⟨br, 1, none⟩)) rfl (by kernel_rfl) (by kernel_rfl) (by kernel_rfl) (fun _ _ _ h => h) (.inl ⟨rfl, by intro wz hz; clear hz; unfold r73; go_simp⟩) trivial ?_
  simp only [r73, Act.put, List.setIfInBounds_toArray, List.set_cons_succ, List.set_cons_zero]
  refine wpAnyH_take (i := 5) (oi := r75) (v := .int .i64 (k : Nat)) rfl (by kernel_rfl) (by kernel_rfl) (by kernel_rfl) (fun _ _ _ h => h) (.inl ⟨rfl, fun _ _ => rfl⟩) trivial ?_
  simp only [r75, Act.put, List.setIfInBounds_toArray, List.set_cons_succ, List.set_cons_zero]
  refine wpAnyH_take (i := 6) (oi := r76) (v := .slice a n cap) rfl (by kernel_rfl) (by kernel_rfl) (by kernel_rfl) (fun _ _ _ h => h) (.inl ⟨rfl, fun _ _ => rfl⟩) trivial ?_
  simp only [r76, Act.put, List.setIfInBounds_toArray, List.set_cons_succ, List.set_cons_zero]
  refine wpAnyH_all (rs := [4, 7]) (by kernel_rfl) (by simp) ?_
  intro i hi
  have hi2 : i = 4 ∨ i = 7 := by simpa using hi
  clear hi
  rcases hi2 with rfl | rfl
  · refine wpOp_plain' (o := r74) rfl rfl ?_
    refine wp_by_run (by unfold r74; go_simp; exact ⟨rfl, rfl⟩) ?_
    refine ⟨trivial, ?_⟩
    simp only [r74, Act.put, List.setIfInBounds_toArray, List.set_cons_succ, List.set_cons_zero]
    refine wpAnyH_all (rs := [7]) (by kernel_rfl) (by simp) ?_
    intro i hi
    obtain rfl : i = 7 := by simpa using hi
    refine wpOp_plain' (o := r77) rfl rfl ?_
    refine wp_of_step (ops := #[]) rfl (step_call rfl 21 _ _ rfl _ rfl _ S1.out ent_sector ?_)
    rintro e w2 ⟨rfl, r2, b2⟩
    refine ⟨_, rfl, ?_⟩
    have R2 : Hid (RowB w2 w.heap.size 5 (secL l)) := r2
    have B2 : Hid (Below w.heap.size w w2) := b2
    have c2 : w2.cell? ⟨br, 1, none⟩ = some (.slice aw d.pend.length cw) := (b2.cell (p := ⟨br, 1, none⟩) hbw).trans h1
    have m2 : (w2.alloc (.cells #[.int .i64 (k : Nat), .slice (some ⟨w.heap.size, 0, none⟩) 64 64] 79)).cell? ⟨br, 1, none⟩ = some (.slice aw d.pend.length cw) := Lib.cell?_alloc_some _ c2
    have z2 := b2.size
    clear r2 b2
    refine ⟨trivial, ?_⟩
    simp only [r77, Act.put, List.setIfInBounds_toArray, List.set_cons_succ, List.set_cons_zero]
    refine wpAnyH_take (i := 8) (oi := r78) (v := .agg #[.int .i64 (k : Nat), .slice (some ⟨w.heap.size, 0, none⟩) 64 64]) rfl (by kernel_rfl) (by kernel_rfl) (by kernel_rfl) (fun _ _ _ h => h) (.inl ⟨rfl, by intro wz hz; clear hz; unfold r78; go_simp⟩) trivial ?_
    simp only [r78, Act.put, List.setIfInBounds_toArray, List.set_cons_succ, List.set_cons_zero]
    refine wpAnyH_all (rs := [9]) (by kernel_rfl) (by simp) ?_
    intro i hi
    obtain rfl : i = 9 := by simpa using hi
    refine wpOp_plain' (o := r79) rfl rfl ?_
    refine wp_by_run (by unfold r79; go_simp; exact ⟨rfl, rfl⟩) ?_
    refine ⟨trivial, ?_⟩
    simp only [r79, Act.put, List.setIfInBounds_toArray, List.set_cons_succ, List.set_cons_zero]
    refine wpAnyH_all (rs := [10]) (by kernel_rfl) (by simp) ?_
    intro i hi
    obtain rfl : i = 10 := by simpa using hi
    refine wpOp_plain' (o := r710) rfl rfl ?_
    refine wp_of_step (ops := #[]) rfl (step_appQ rfl rfl _ _ rfl base ?_ aw (zipQ d.pend hs) cw _ _ _ (k, w.heap.size) (zipQ_len HA.out.hl).symm rfl rfl ?_ ?_ (by rw [zipQ_len HA.out.hl]; omega) ?_)
    · simp; omega
    · exact owns_keepK (K := fun _ => true) HA.out.wait (fun _ => rfl) (fun i o ho _ => old_alloc (by rw [B2.out.block i (Array.getElem?_eq_some_iff.1 ho).1]; exact ho))
    · exact Go.heap_alloc_new w2 _
    intro a3 c3 w3 r3 g3
    have P3 := HA.out.pushed (W := w2.alloc (.cells #[.int .i64 (k : Nat), .slice (some ⟨w.heap.size, 0, none⟩) 64 64] 79)) (k := k) (l := l) (B2.out.alloc z2 _) g3 r3 (R2.out.keep ((Below.refl _ w2).alloc (Nat.le_refl _) _)) (OKN.out _ (Nat.le_refl _))
    have q3 : w3.cell? ⟨br, 1, none⟩ = some (.slice aw d.pend.length cw) := cell_of_row _ _ _ _ _ _ P3.2.1
    have z3 : w3.frozen? ⟨br, 1, none⟩ = false := frozen_of_row _ _ _ _ _ P3.2.1
    have I3 : Hid (IsR (w3.setCell ⟨br, 1, none⟩ (.slice a3 (d.pend.length + 1) c3)) base br ok (pushD d k l)) := ⟨as0, cs, gs, a3, c3, hs ++ [w.heap.size], P3.1, HP.out⟩
    have T3 : Hid (Turn base KR w (w3.setCell ⟨br, 1, none⟩ (.slice a3 (d.pend.length + 1) c3))) := P3.2.2
    clear P3 r3 g3
    refine ⟨trivial, ?_⟩
    simp only [r710, Act.put, List.setIfInBounds_toArray, List.set_cons_succ, List.set_cons_zero]
    refine wpAnyH_take (i := 11) (oi := r711) (v := .pointer (some ⟨br, 0, none⟩)) rfl (by kernel_rfl) (by kernel_rfl) (by kernel_rfl) (fun _ _ _ h => h) (.inl ⟨rfl, by intro wz hz; clear hz; unfold r711; go_simp⟩) trivial ?_
    simp only [r711, Act.put, List.setIfInBounds_toArray, List.set_cons_succ, List.set_cons_zero]
    refine wpAnyH_take (i := 12) (oi := r712) (v := .pointer (some ⟨br, 1, none⟩)) rfl (by kernel_rfl) (by kernel_rfl) (by kernel_rfl) (fun _ _ _ h => h) (.inl ⟨rfl, by intro wz hz; clear hz; unfold r712; go_simp⟩) trivial ?_
    simp only [r712, Act.put, List.setIfInBounds_toArray, List.set_cons_succ, List.set_cons_zero]
    refine wpAnyH_all (rs := [13]) (by kernel_rfl) (by simp) ?_
    intro i hi
    obtain rfl : i = 13 := by simpa using hi
    refine wpOp_plain' (o := r713) rfl rfl ?_
    refine wp_by_skip (by unfold r713; go_simp; exact rfl) ?_
    refine ⟨trivial, ?_⟩
    simp only [r713, Act.put]
    refine wpAnyH_done (by kernel_rfl) ?_ _
    go_wp2_with fail
    refine (fails_any base br ok (pushD d k l) _ I3.out HO.out).mono ?_
    rintro e w5 ⟨rfl, i5, t5⟩
    have I5 : Hid (IsR w5 base br ok (workD (pushD d k l))) := i5
    have T5 : Hid (Turn base KR w w5) := T3.out.trans t5
    have dl : (pushD d k l).left = d.left := rfl
    rw [dl]
    clear i5 t5
    by_cases h1 : d.left = 1
    · have e5 : decide (d.left = 1) = true := by simpa using h1
      have e14 : E = 14 := by have := WE.out; rw [if_pos h1] at this; exact this
      have HE : Hid (E = 14) := e14
      clear e14 h1 WE
      go_wp2
      go_ret
      exact ⟨ret_int HE.out.symm, I5.out, T5.out⟩
    · have e5 : decide (d.left = 1) = false := by simpa using h1
      have e0 : E = 0 := by have := WE.out; rw [if_neg h1] at this; exact this
      have HE : Hid (E = 0) := e0
      clear e0 h1 WE
      go_wp2
      go_ret
      exact ⟨ret_int HE.out.symm, I5.out, T5.out⟩
    
  · refine wpOp_plain' (o := r77) rfl rfl ?_
    refine wp_of_step (ops := #[]) rfl (step_call rfl 21 _ _ rfl _ rfl _ S1.out ent_sector ?_)
    rintro e w2 ⟨rfl, r2, b2⟩
    refine ⟨_, rfl, ?_⟩
    have R2 : Hid (RowB w2 w.heap.size 5 (secL l)) := r2
    have B2 : Hid (Below w.heap.size w w2) := b2
    have c2 : w2.cell? ⟨br, 1, none⟩ = some (.slice aw d.pend.length cw) := (b2.cell (p := ⟨br, 1, none⟩) hbw).trans h1
    have m2 : (w2.alloc (.cells #[.int .i64 (k : Nat), .slice (some ⟨w.heap.size, 0, none⟩) 64 64] 79)).cell? ⟨br, 1, none⟩ = some (.slice aw d.pend.length cw) := Lib.cell?_alloc_some _ c2
    have z2 := b2.size
    clear r2 b2
    refine ⟨trivial, ?_⟩
    simp only [r77, Act.put, List.setIfInBounds_toArray, List.set_cons_succ, List.set_cons_zero]
    refine wpAnyH_take (i := 8) (oi := r78) (v := .agg #[.int .i64 (k : Nat), .slice (some ⟨w.heap.size, 0, none⟩) 64 64]) rfl (by kernel_rfl) (by kernel_rfl) (by kernel_rfl) (fun _ _ _ h => h) (.inl ⟨rfl, by intro wz hz; clear hz; unfold r78; go_simp⟩) trivial ?_
    simp only [r78, Act.put, List.setIfInBounds_toArray, List.set_cons_succ, List.set_cons_zero]
    refine wpAnyH_all (rs := [4, 9]) (by kernel_rfl) (by simp) ?_
    intro i hi
    have hi2 : i = 4 ∨ i = 9 := by simpa using hi
    clear hi
    rcases hi2 with rfl | rfl
    · refine wpOp_plain' (o := r74) rfl rfl ?_
      refine wp_by_run (by unfold r74; go_simp; exact ⟨rfl, rfl⟩) ?_
      refine ⟨trivial, ?_⟩
      simp only [r74, Act.put, List.setIfInBounds_toArray, List.set_cons_succ, List.set_cons_zero]
      refine wpAnyH_all (rs := [9]) (by kernel_rfl) (by simp) ?_
      intro i hi
      obtain rfl : i = 9 := by simpa using hi
      refine wpOp_plain' (o := r79) rfl rfl ?_
      refine wp_by_run (by unfold r79; go_simp; exact ⟨rfl, rfl⟩) ?_
      refine ⟨trivial, ?_⟩
      simp only [r79, Act.put, List.setIfInBounds_toArray, List.set_cons_succ, List.set_cons_zero]
      refine wpAnyH_all (rs := [10]) (by kernel_rfl) (by simp) ?_
      intro i hi
      obtain rfl : i = 10 := by simpa using hi
      refine wpOp_plain' (o := r710) rfl rfl ?_
      refine wp_of_step (ops := #[]) rfl (step_appQ rfl rfl _ _ rfl base ?_ aw (zipQ d.pend hs) cw _ _ _ (k, w.heap.size) (zipQ_len HA.out.hl).symm rfl rfl ?_ ?_ (by rw [zipQ_len HA.out.hl]; omega) ?_)
      · simp; omega
      · exact owns_keepK (K := fun _ => true) HA.out.wait (fun _ => rfl) (fun i o ho _ => old_alloc (by rw [B2.out.block i (Array.getElem?_eq_some_iff.1 ho).1]; exact ho))
      · exact Go.heap_alloc_new w2 _
      intro a3 c3 w3 r3 g3
      have P3 := HA.out.pushed (W := w2.alloc (.cells #[.int .i64 (k : Nat), .slice (some ⟨w.heap.size, 0, none⟩) 64 64] 79)) (k := k) (l := l) (B2.out.alloc z2 _) g3 r3 (R2.out.keep ((Below.refl _ w2).alloc (Nat.le_refl _) _)) (OKN.out _ (Nat.le_refl _))
      have q3 : w3.cell? ⟨br, 1, none⟩ = some (.slice aw d.pend.length cw) := cell_of_row _ _ _ _ _ _ P3.2.1
      have z3 : w3.frozen? ⟨br, 1, none⟩ = false := frozen_of_row _ _ _ _ _ P3.2.1
      have I3 : Hid (IsR (w3.setCell ⟨br, 1, none⟩ (.slice a3 (d.pend.length + 1) c3)) base br ok (pushD d k l)) := ⟨as0, cs, gs, a3, c3, hs ++ [w.heap.size], P3.1, HP.out⟩
      have T3 : Hid (Turn base KR w (w3.setCell ⟨br, 1, none⟩ (.slice a3 (d.pend.length + 1) c3))) := P3.2.2
      clear P3 r3 g3
      refine ⟨trivial, ?_⟩
      simp only [r710, Act.put, List.setIfInBounds_toArray, List.set_cons_succ, List.set_cons_zero]
      refine wpAnyH_take (i := 11) (oi := r711) (v := .pointer (some ⟨br, 0, none⟩)) rfl (by kernel_rfl) (by kernel_rfl) (by kernel_rfl) (fun _ _ _ h => h) (.inl ⟨rfl, by intro wz hz; clear hz; unfold r711; go_simp⟩) trivial ?_
      simp only [r711, Act.put, List.setIfInBounds_toArray, List.set_cons_succ, List.set_cons_zero]
      refine wpAnyH_take (i := 12) (oi := r712) (v := .pointer (some ⟨br, 1, none⟩)) rfl (by kernel_rfl) (by kernel_rfl) (by kernel_rfl) (fun _ _ _ h => h) (.inl ⟨rfl, by intro wz hz; clear hz; unfold r712; go_simp⟩) trivial ?_
      simp only [r712, Act.put, List.setIfInBounds_toArray, List.set_cons_succ, List.set_cons_zero]
      refine wpAnyH_all (rs := [13]) (by kernel_rfl) (by simp) ?_
      intro i hi
      obtain rfl : i = 13 := by simpa using hi
      refine wpOp_plain' (o := r713) rfl rfl ?_
      refine wp_by_skip (by unfold r713; go_simp; exact rfl) ?_
      refine ⟨trivial, ?_⟩
      simp only [r713, Act.put]
      refine wpAnyH_done (by kernel_rfl) ?_ _
      go_wp2_with fail
      refine (fails_any base br ok (pushD d k l) _ I3.out HO.out).mono ?_
      rintro e w5 ⟨rfl, i5, t5⟩
      have I5 : Hid (IsR w5 base br ok (workD (pushD d k l))) := i5
      have T5 : Hid (Turn base KR w w5) := T3.out.trans t5
      have dl : (pushD d k l).left = d.left := rfl
      rw [dl]
      clear i5 t5
      by_cases h1 : d.left = 1
      · have e5 : decide (d.left = 1) = true := by simpa using h1
        have e14 : E = 14 := by have := WE.out; rw [if_pos h1] at this; exact this
        have HE : Hid (E = 14) := e14
        clear e14 h1 WE
        go_wp2
        go_ret
        exact ⟨ret_int HE.out.symm, I5.out, T5.out⟩
      · have e5 : decide (d.left = 1) = false := by simpa using h1
        have e0 : E = 0 := by have := WE.out; rw [if_neg h1] at this; exact this
        have HE : Hid (E = 0) := e0
        clear e0 h1 WE
        go_wp2
        go_ret
        exact ⟨ret_int HE.out.symm, I5.out, T5.out⟩
      
    · refine wpOp_plain' (o := r79) rfl rfl ?_
      refine wp_by_run (by unfold r79; go_simp; exact ⟨rfl, rfl⟩) ?_
      refine ⟨trivial, ?_⟩
      simp only [r79, Act.put, List.setIfInBounds_toArray, List.set_cons_succ, List.set_cons_zero]
      refine wpAnyH_all (rs := [4]) (by kernel_rfl) (by simp) ?_
      intro i hi
      obtain rfl : i = 4 := by simpa using hi
      refine wpOp_plain' (o := r74) rfl rfl ?_
      refine wp_by_run (by unfold r74; go_simp; exact ⟨rfl, rfl⟩) ?_
      refine ⟨trivial, ?_⟩
      simp only [r74, Act.put, List.setIfInBounds_toArray, List.set_cons_succ, List.set_cons_zero]
      refine wpAnyH_all (rs := [10]) (by kernel_rfl) (by simp) ?_
      intro i hi
      obtain rfl : i = 10 := by simpa using hi
      refine wpOp_plain' (o := r710) rfl rfl ?_
      refine wp_of_step (ops := #[]) rfl (step_appQ rfl rfl _ _ rfl base ?_ aw (zipQ d.pend hs) cw _ _ _ (k, w.heap.size) (zipQ_len HA.out.hl).symm rfl rfl ?_ ?_ (by rw [zipQ_len HA.out.hl]; omega) ?_)
      · simp; omega
      · exact owns_keepK (K := fun _ => true) HA.out.wait (fun _ => rfl) (fun i o ho _ => old_alloc (by rw [B2.out.block i (Array.getElem?_eq_some_iff.1 ho).1]; exact ho))
      · exact Go.heap_alloc_new w2 _
      intro a3 c3 w3 r3 g3
      have P3 := HA.out.pushed (W := w2.alloc (.cells #[.int .i64 (k : Nat), .slice (some ⟨w.heap.size, 0, none⟩) 64 64] 79)) (k := k) (l := l) (B2.out.alloc z2 _) g3 r3 (R2.out.keep ((Below.refl _ w2).alloc (Nat.le_refl _) _)) (OKN.out _ (Nat.le_refl _))
      have q3 : w3.cell? ⟨br, 1, none⟩ = some (.slice aw d.pend.length cw) := cell_of_row _ _ _ _ _ _ P3.2.1
      have z3 : w3.frozen? ⟨br, 1, none⟩ = false := frozen_of_row _ _ _ _ _ P3.2.1
      have I3 : Hid (IsR (w3.setCell ⟨br, 1, none⟩ (.slice a3 (d.pend.length + 1) c3)) base br ok (pushD d k l)) := ⟨as0, cs, gs, a3, c3, hs ++ [w.heap.size], P3.1, HP.out⟩
      have T3 : Hid (Turn base KR w (w3.setCell ⟨br, 1, none⟩ (.slice a3 (d.pend.length + 1) c3))) := P3.2.2
      clear P3 r3 g3
      refine ⟨trivial, ?_⟩
      simp only [r710, Act.put, List.setIfInBounds_toArray, List.set_cons_succ, List.set_cons_zero]
      refine wpAnyH_take (i := 11) (oi := r711) (v := .pointer (some ⟨br, 0, none⟩)) rfl (by kernel_rfl) (by kernel_rfl) (by kernel_rfl) (fun _ _ _ h => h) (.inl ⟨rfl, by intro wz hz; clear hz; unfold r711; go_simp⟩) trivial ?_
      simp only [r711, Act.put, List.setIfInBounds_toArray, List.set_cons_succ, List.set_cons_zero]
      refine wpAnyH_take (i := 12) (oi := r712) (v := .pointer (some ⟨br, 1, none⟩)) rfl (by kernel_rfl) (by kernel_rfl) (by kernel_rfl) (fun _ _ _ h => h) (.inl ⟨rfl, by intro wz hz; clear hz; unfold r712; go_simp⟩) trivial ?_
      simp only [r712, Act.put, List.setIfInBounds_toArray, List.set_cons_succ, List.set_cons_zero]
      refine wpAnyH_all (rs := [13]) (by kernel_rfl) (by simp) ?_
      intro i hi
      obtain rfl : i = 13 := by simpa using hi
      refine wpOp_plain' (o := r713) rfl rfl ?_
      refine wp_by_skip (by unfold r713; go_simp; exact rfl) ?_
      refine ⟨trivial, ?_⟩
      simp only [r713, Act.put]
      refine wpAnyH_done (by kernel_rfl) ?_ _
      go_wp2_with fail
      refine (fails_any base br ok (pushD d k l) _ I3.out HO.out).mono ?_
      rintro e w5 ⟨rfl, i5, t5⟩
      have I5 : Hid (IsR w5 base br ok (workD (pushD d k l))) := i5
      have T5 : Hid (Turn base KR w w5) := T3.out.trans t5
      have dl : (pushD d k l).left = d.left := rfl
      rw [dl]
      clear i5 t5
      by_cases h1 : d.left = 1
      · have e5 : decide (d.left = 1) = true := by simpa using h1
        have e14 : E = 14 := by have := WE.out; rw [if_pos h1] at this; exact this
        have HE : Hid (E = 14) := e14
        clear e14 h1 WE
        go_wp2
        go_ret
        exact ⟨ret_int HE.out.symm, I5.out, T5.out⟩
      · have e5 : decide (d.left = 1) = false := by simpa using h1
        have e0 : E = 0 := by have := WE.out; rw [if_neg h1] at this; exact this
        have HE : Hid (E = 0) := e0
        clear e0 h1 WE
        go_wp2
        go_ret
        exact ⟨ret_int HE.out.symm, I5.out, T5.out⟩
      

theorem rwrite_any (base br : Nat) (ok : Nat → Prop) (d : Dk) (i : Int) (a : Option Addr) (n cap : Nat) (l : List Int) (w : World) (h : IsR w base br ok d) (hbase : base ≤ w.heap.size) (hnew : ∀ g, w.heap.size ≤ g → ok g) (hn : n = l.length) (hB : IsB w a l) (hpl : d.pend.length ≤ 900000) (ho : d.ops ≤ 1000000000) :
    Calls Tryd.prog 8 #[.pointer (some ⟨br, 0, none⟩), .int .i64 i, .slice a n cap] w fun e w' => e = .returned (.int .i64 (writeE d i l)) ∧ IsR w' base br ok (writeD d i l) ∧ Turn base KR w w' := by
  by_cases hc : closedE d i = 0
  · by_cases hl : l.length ≤ 64
    · have e1 : writeE d i l = workE d := by rw [writeE, if_pos hc, if_neg (by omega)]
      have e2 : writeD d i l = workD (pushD d i.toNat l) := by rw [writeD, if_pos ⟨hc, hl⟩]
      rw [e1, e2]
      exact rwrite_open base br ok d i a n cap l w h hbase hnew hn hB hc hl hpl ho
    · have e1 : writeE d i l = 6 := by rw [writeE, if_pos hc, if_pos (by omega)]
      have e2 : writeD d i l = d := by rw [writeD, if_neg (by omega)]
      rw [e1, e2]
      refine (rwrite_long base br ok d i a n cap w h hc (by omega)).mono ?_
      rintro e w' ⟨rfl, rfl⟩
      exact ⟨rfl, h, Turn.refl _ _ _⟩
  · have e1 : writeE d i l = closedE d i := by rw [writeE, if_neg hc]
    have e2 : writeD d i l = d := by rw [writeD, if_neg (by omega)]
    rw [e1, e2]
    refine (rwrite_bad base br ok d i a n cap w h hc).mono ?_
    rintro e w' ⟨rfl, rfl⟩
    exact ⟨rfl, h, Turn.refl _ _ _⟩
end Go.Proofs.YtofmicbhheebiaaDoor
