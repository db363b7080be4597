/- The document's disk in memory: New. -/
import Derived.Test.YtofmicbhheebiaaDoorDkU
namespace Go.Proofs.YtofmicbhheebiaaDoor
open Go.RowKit Go.Maps
set_option linter.unusedVariables false
set_option maxRecDepth 4000

theorem info32 : (Tryd.prog.info? 22).map (fun i => (i.zero, i.size, i.bytes)) = some (some (.slice none 0 0), 1, 24) := by kernel_rfl
theorem info76 : (Tryd.prog.info? 79).map (fun i => (i.zero, i.size, i.bytes)) = some (some (.agg #[.int .i64 0, .slice none 0 0]), 2, 32) := by kernel_rfl
theorem ent_sector : (match Tryd.prog.funcs[21]? with | some fn => !(fn.name == "runtime.NumGoroutine") && !fn.body.isNone | none => false) = true := by kernel_rfl

theorem step_appG {ops : Array Oper} {o : Oper} {a : Act} {K : Act → World → Prop} {Q : Exit → Act → World → Prop} {E : Prop} {w : World} (hgd : o.guard = none) (hty : o.type = 67) (s x : Operand)
    (ho : o.op = .call { callee := .builtin .append, args := #[s, x], argTypes := #[67, 67] }) (base : Nat) (hbase : base ≤ w.heap.size) (ap : Option Addr) (gs : List Nat) (cp n q c y : Nat) (hn : n = gs.length)
    (hs : a.eval s = .slice ap n cp) (hx : a.eval x = .slice (some ⟨q, 0, none⟩) 1 c) (hr : RowG w base ap gs cp) (hq : w.heap[q]? = some (.cells #[secV y] 22 (0, 0))) (hlen : gs.length ≤ 1000000)
    (h : ∀ a' cap' w', RowG w' base a' (gs ++ [y]) cap' → w.grownBy w' (Value.slice ap n cp).ownBlock → K (a.put o.dst (.slice a' (n + 1) cap')) w') :
    if Region.wanted o (yielded ops a.tmps) = true then Oper.wp Tryd.prog o a w K Q else E := by
  subst hn
  obtain ⟨i0, hi, hz0, hz1, hz2⟩ := info_parts info32
  obtain ⟨v', w', hrun, h2, h3, h4⟩ := run_append_own (P := Tryd.prog) w base 67 67 22 i0 (.slice none 0 0) 1 24 Tryd.underlying67 hi hz0 hz1 hz2 rfl (by decide)
    (.slice ap gs.length cp) gs.length (cellsG gs) hr ⟨q, 0, none⟩ 1 c [secV y] rfl (by
      intro j u hj
      rw [addr_add, Nat.zero_add, cell_of_row w q j _ _ _ hq]
      simpa using hj) (by intro u hu; simp at hu; subst hu; rfl) (by unfold maxLen; omega) (by omega) hbase
  have hf : ∃ a' cap', v' = .slice a' (gs.length + 1) cap' := by
    obtain ⟨_, ⟨rfl, h0⟩ | ⟨g, c', cur, rfl, _⟩⟩ := h2
    · omega
    · exact ⟨_, _, rfl⟩
  obtain ⟨a', cap', rfl⟩ := hf
  refine step_app hgd s x 67 ho _ _ hs hx _ w' (by rw [hty]; exact hrun) ?_
  exact h a' cap' w' (by rw [RowG, List.length_append, cellsG, List.map_append]; exact h2) h3

theorem step_appQ {ops : Array Oper} {o : Oper} {a : Act} {K : Act → World → Prop} {Q : Exit → Act → World → Prop} {E : Prop} {w : World} (hgd : o.guard = none) (hty : o.type = 68) (s x : Operand)
    (ho : o.op = .call { callee := .builtin .append, args := #[s, x], argTypes := #[68, 68] }) (base : Nat) (hbase : base ≤ w.heap.size) (ap : Option Addr) (qs : List (Nat × Nat)) (cp n q c : Nat) (y : Nat × Nat) (hn : n = qs.length)
    (hs : a.eval s = .slice ap n cp) (hx : a.eval x = .slice (some ⟨q, 0, none⟩) 1 c) (hr : RowQ w base ap qs cp) (hq : w.heap[q]? = some (.cells #[.int .i64 (y.1 : Nat), secV y.2] 79 (0, 0))) (hlen : qs.length ≤ 1000000)
    (h : ∀ a' cap' w', RowQ w' base a' (qs ++ [y]) cap' → w.grownBy w' (Value.slice ap n cp).ownBlock → K (a.put o.dst (.slice a' (n + 1) cap')) w') :
    if Region.wanted o (yielded ops a.tmps) = true then Oper.wp Tryd.prog o a w K Q else E := by
  subst hn
  obtain ⟨i0, hi, hz0, hz1, hz2⟩ := info_parts info76
  obtain ⟨v', w', hrun, h2, h3, h4⟩ := run_append_own (P := Tryd.prog) w base 68 68 79 i0 (.agg #[.int .i64 0, .slice none 0 0]) 2 32 Tryd.underlying68 hi hz0 hz1 hz2 rfl (by decide)
    (.slice ap qs.length cp) qs.length (cellsQ qs) hr ⟨q, 0, none⟩ 1 c [.int .i64 (y.1 : Nat), secV y.2] rfl (by
      intro j u hj
      rw [addr_add, Nat.zero_add, cell_of_row w q j _ _ _ hq]
      simpa using hj) (by intro u hu; simp at hu; rcases hu with rfl | rfl <;> rfl) (by unfold maxLen; omega) (by omega) hbase
  have hf : ∃ a' cap', v' = .slice a' (qs.length + 1) cap' := by
    obtain ⟨_, ⟨rfl, h0⟩ | ⟨g, c', cur, rfl, _⟩⟩ := h2
    · omega
    · exact ⟨_, _, rfl⟩
  obtain ⟨a', cap', rfl⟩ := hf
  refine step_app hgd s x 68 ho _ _ hs hx _ w' (by rw [hty]; exact hrun) ?_
  have e : cellsQ (qs ++ [y]) = cellsQ qs ++ [.int .i64 (y.1 : Nat), secV y.2] := by rw [cellsQ_append]; rfl
  exact h a' cap' w' (by rw [RowQ, List.length_append, e]; exact h2) h3

def rboxC (as0 : Option Addr) (n cs : Nat) (aw : Option Addr) (k cw : Nat) (d : Dk) : Array Value := #[.slice as0 n cs, .slice aw k cw, .int .i64 (max 0 d.left), .bool d.down, .int .i64 (d.ops : Nat)]

/-- The writes that are pending, and where their bytes lie. -/
def zipQ (p : List Wr) (hs : List Nat) : List (Nat × Nat) := (p.map (·.at)).zip hs
theorem zipQ_len {p : List Wr} {hs : List Nat} (h : hs.length = p.length) : (zipQ p hs).length = p.length := by simp [zipQ, h]
theorem zipQ_at {p : List Wr} {hs : List Nat} {k : Nat} (h : k < p.length) (h' : k < hs.length) (h2 : k < (zipQ p hs).length) : (zipQ p hs)[k] = (p[k].at, hs[k]) := by simp [zipQ]
theorem zipQ_snoc {p : List Wr} {hs : List Nat} (x : Wr) (q : Nat) (h : hs.length = p.length) : zipQ (p ++ [x]) (hs ++ [q]) = zipQ p hs ++ [(x.at, q)] := by
  unfold zipQ
  rw [List.map_append, List.zip_append (by simp [h])]
  rfl

structure RefAt (w : World) (base br : Nat) (as0 : Option Addr) (cs : Nat) (gs : List Nat) (aw : Option Addr) (cw : Nat) (hs : List Nat) (ok : Nat → Prop) (d : Dk) : Prop where
  box : w.heap[br]? = some (.cells (rboxC as0 gs.length cs aw d.pend.length cw d) 70 (0, 0))
  sure : RowG w base as0 gs cs
  wait : RowQ w base aw (zipQ d.pend hs) cw
  gl : gs.length = d.n
  hl : hs.length = d.pend.length
  secs : ∀ i (h : i < gs.length), RowB w gs[i] 5 (d.sure i) ∧ ok gs[i]
  pends : ∀ k (h : k < hs.length) (h' : k < d.pend.length), RowB w hs[k] 5 d.pend[k].by ∧ ok hs[k]
  ge : base ≤ br

/-- A disk of the document's, from a base on; ok: where its sectors may lie. -/
def IsR (w : World) (base br : Nat) (ok : Nat → Prop) (d : Dk) : Prop := ∃ as0 cs gs aw cw hs, RefAt w base br as0 cs gs aw cw hs ok d ∧ DkOk d

theorem IsR.ok' {w : World} {base br : Nat} {ok : Nat → Prop} {d : Dk} (h : IsR w base br ok d) : DkOk d := by obtain ⟨_, _, _, _, _, _, _, h⟩ := h; exact h

/-- The document's disk stays while others are written. -/
theorem RefAt.same {w w' : World} {base br cs cw : Nat} {as0 aw : Option Addr} {gs hs : List Nat} {ok : Nat → Prop} {d : Dk} (h : RefAt w base br as0 cs gs aw cw hs ok d)
    (he : ∀ (i : Nat) (o : Obj), w.heap[i]? = some o → KR o = true → w'.heap[i]? = some o) (hs' : ∀ g l, RowB w g 5 l → ok g → RowB w' g 5 l) : RefAt w' base br as0 cs gs aw cw hs ok d :=
  ⟨he _ _ h.box rfl, owns_keepK h.sure (fun _ => rfl) he, owns_keepK h.wait (fun _ => rfl) he, h.gl, h.hl, fun i hi => ⟨hs' _ _ (h.secs i hi).1 (h.secs i hi).2, (h.secs i hi).2⟩, fun k hk hk' => ⟨hs' _ _ (h.pends k hk hk').1 (h.pends k hk hk').2, (h.pends k hk hk').2⟩, h.ge⟩
theorem IsR.same {w w' : World} {base br : Nat} {ok : Nat → Prop} {d : Dk} (h : IsR w base br ok d)
    (he : ∀ (i : Nat) (o : Obj), w.heap[i]? = some o → KR o = true → w'.heap[i]? = some o) (hs' : ∀ g l, RowB w g 5 l → ok g → RowB w' g 5 l) : IsR w' base br ok d := by
  obtain ⟨a, b, c, d', e, f, h, r⟩ := h; exact ⟨a, b, c, d', e, f, h.same he hs', r⟩
theorem IsR.keep {w w' : World} {base br : Nat} {ok : Nat → Prop} {d : Dk} (h : IsR w base br ok d) (hb : Below w.heap.size w w') : IsR w' base br ok d :=
  h.same (fun i o ho _ => by rw [hb.block i (Array.getElem?_eq_some_iff.1 ho).1]; exact ho) (fun g l hr _ => hr.keep hb)
theorem IsR.turn {w w' : World} {base base' br : Nat} {ok : Nat → Prop} {d : Dk} (h : IsR w base br ok d) (ht : Turn base' KC w w') : IsR w' base br ok d :=
  h.same (fun i o ho hk => ht.block i o ho (.inr (by cases o <;> simp_all [KR, KC]; rcases hk with (rfl | rfl) | rfl <;> decide))) (fun g l hr _ => hr.turn ht rfl)
theorem IsR.drew {w : World} {base br : Nat} {ok : Nat → Prop} {d : Dk} (h : IsR w base br ok d) : IsR w.drew base br ok d := h.same (fun _ _ ho _ => ho) (fun _ _ hr _ => hr)
theorem IsR.drewN {w : World} {base br : Nat} {ok : Nat → Prop} {d : Dk} (h : IsR w base br ok d) (m : Nat) : IsR (w.drewN m) base br ok d := h.same (fun _ _ ho _ => ho) (fun _ _ hr _ => hr)
theorem IsR.mono {w : World} {base br : Nat} {ok ok' : Nat → Prop} {d : Dk} (h : IsR w base br ok d) (hk : ∀ g, g < w.heap.size → ok g → ok' g) : IsR w base br ok' d := by
  obtain ⟨a, b, c, d', e, f, h, r⟩ := h
  exact ⟨a, b, c, d', e, f, ⟨h.box, h.sure, h.wait, h.gl, h.hl, fun i hi => ⟨(h.secs i hi).1, hk _ (h.secs i hi).1.lt (h.secs i hi).2⟩, fun k hk' hk'' => ⟨(h.pends k hk' hk'').1, hk _ (h.pends k hk' hk'').1.lt (h.pends k hk' hk'').2⟩, h.ge⟩, r⟩
/-- A code's disk stays while the document's is written. -/
theorem IsD.turnR {w w' : World} {base base' b m : Nat} {d : Dk} (h : IsD w base b m d) (ht : Turn base' KR w w') : IsD w' base b m d :=
  h.same (fun i o ho hk => ht.block i o ho (.inr (by cases o <;> simp_all [KR, KC]; rcases hk with rfl | rfl <;> decide)))

/-- Under way: so many sectors are there. -/
structure Making (w wr : World) (k : Nat) (as0 : Option Addr) (cs : Nat) (gs : List Nat) : Prop where
  len : gs.length = k
  box : wr.heap[w.heap.size]? = some (.cells (rboxC as0 gs.length cs none 0 0 (newD 0)) 70 (0, 0))
  sure : RowG wr w.heap.size as0 gs cs
  secs : ∀ g ∈ gs, RowB wr g 5 zeros ∧ w.heap.size ≤ g
  below : Below w.heap.size w wr

theorem Making.done {w wr : World} {n cs base : Nat} {as0 : Option Addr} {gs : List Nat} {ok : Nat → Prop} (h : Making w wr n as0 cs gs) (hn : n ≤ 65536) (hb : base ≤ w.heap.size) (hok : ∀ g, w.heap.size ≤ g → ok g) : IsR wr base w.heap.size ok (newD n) := by
  refine ⟨as0, cs, gs, none, 0, [], ⟨h.box, ?_, rowQ_nil _ _, h.len, rfl, fun i hi => ⟨(h.secs _ (List.getElem_mem hi)).1, hok _ (h.secs _ (List.getElem_mem hi)).2⟩, fun k hk => by (simp at hk), hb⟩, newD_ok hn⟩
  obtain ⟨h0, h1 | ⟨g, c', cur, h1, hg, h2⟩⟩ := h.sure
  · exact ⟨h0, .inl h1⟩
  · exact ⟨h0, .inr ⟨g, c', cur, h1, by omega, h2⟩⟩

set_option maxHeartbeats 4000000 in
theorem rnew_fit (n : Nat) (w : World) (h0 : 8 ≤ n) (h1 : n ≤ 65536) :
    Calls Tryd.prog 6 #[.int .i64 (n : Nat)] w fun e w' => ∃ as0 cs gs, e = .returned (.tuple #[.pointer (some ⟨w.heap.size, 0, none⟩), .int .i64 0]) ∧ Making w w' n as0 cs gs := by
  have M0 : Hid (Making w (w.alloc (.cells (rboxC none 0 0 none 0 0 (newD 0)) 70)) 0 none 0 []) := ⟨rfl, Go.heap_alloc_new w _, rowG_nil _ _, fun g hg => by (cases hg), (Below.refl _ w).alloc (Nat.le_refl _) _⟩
  go_enter Tryd.func6, Tryd.ntmps6
  go_wp2
  go_loopw [5] (fun iv wr => ∃ (k : Nat) (as0 : Option Addr) (cs : Nat) (gs : List Nat), k ≤ n ∧ iv = .int .i64 (k : Nat) ∧ Making w wr k as0 cs gs) (fun iv _ => n - (intOf iv).toNat)
  case atStart => exact ⟨0, none, 0, [], Nat.zero_le _, rfl, M0.out⟩
  case round =>
    clear M0
    obtain ⟨k, as0, cs, gs, hk, rfl, hM⟩ := hrel
    rename World => wr
    have HM : Hid (Making w wr k as0 cs gs) := hM
    by_cases hlt : k < n
    · have hgl := hM.len
      have k0 : wr.cell? ⟨w.heap.size, 0, none⟩ = some (.slice as0 gs.length cs) := cell_of_row _ _ _ _ _ _ hM.box
      have hbw : w.heap.size < wr.heap.size := (Array.getElem?_eq_some_iff.1 hM.box).1
      have hglen : gs.length ≤ 1000000 := by omega
      have GL : Hid (gs.length = k) := hgl
      have S1 : Hid (Calls Tryd.prog 21 #[.slice none 0 0] wr.drew fun e w' => e = .returned (.slice (some ⟨wr.heap.size, 0, none⟩) 64 64) ∧ RowB w' wr.heap.size 5 zeros ∧ Below wr.heap.size wr w') := by
        refine (rsector_nil wr.drew).mono ?_
        rintro e w' ⟨rfl, r, b⟩
        exact ⟨rfl, r, ⟨b.os, b.tape, b.output, b.size, b.block⟩⟩
      clear hM hgl
      go_wp2_with fail
      go_region_law (first
        | (refine step_call rfl 21 _ _ rfl _ rfl _ S1.out ent_sector ?_; rintro e w2 ⟨rfl, r2, b2⟩; refine ⟨_, rfl, ?_⟩; have R2 : Hid (RowB w2 wr.heap.size 5 zeros) := r2; have B2 : Hid (Below wr.heap.size wr w2) := b2; have c2 : w2.cell? ⟨w.heap.size, 0, none⟩ = some (.slice as0 gs.length cs) := (b2.cell (p := ⟨w.heap.size, 0, none⟩) hbw).trans k0; have n2 : (w2.alloc (.cells #[secV wr.heap.size] 22)).cell? ⟨w.heap.size, 0, none⟩ = some (.slice as0 gs.length cs) := Lib.cell?_alloc_some _ c2; have n3 := n2; unfold secV at n3; have z2 := b2.size; clear r2 b2)
        | (refine step_appG rfl rfl _ _ rfl w.heap.size ?_ as0 gs cs _ _ _ wr.heap.size rfl rfl rfl ?_ ?_ hglen ?_; (simp; omega); exact owns_keepK (K := fun _ => true) HM.out.sure (fun _ => rfl) (fun i o ho _ => old_alloc (by rw [B2.out.block i (Array.getElem?_eq_some_iff.1 ho).1]; exact ho)); exact Go.heap_alloc_new w2 _; intro a3 c3 w3 r3 g3; have X2 : (w2.alloc (.cells #[secV wr.heap.size] 22)).heap[w.heap.size]? = some (.cells (rboxC as0 gs.length cs none 0 0 (newD 0)) 70 (0, 0)) := old_alloc (by rw [B2.out.block _ hbw]; exact HM.out.box); have K2 : ∀ j, (Value.slice as0 gs.length cs).ownBlock = some j → w.heap.size ≤ j ∧ ∃ cur, (w2.alloc (.cells #[secV wr.heap.size] 22)).heap[j]? = some (.cells cur 22 (0, 0)) := owns_kind rfl (owns_keepK (K := fun _ => true) HM.out.sure (fun _ => rfl) (fun i o ho _ => old_alloc (by rw [B2.out.block i (Array.getElem?_eq_some_iff.1 ho).1]; exact ho))); have N3 : ∀ (j : Nat) (o : Obj), (w2.alloc (.cells #[secV wr.heap.size] 22)).heap[j]? = some o → (∀ cur, o ≠ .cells cur 22 (0, 0)) → w3.heap[j]? = some o := (fun j o ho hne => by rw [g3.block j (Array.getElem?_eq_some_iff.1 ho).1 (fun e => by obtain ⟨_, cur, hc⟩ := K2 j e.symm; rw [ho] at hc; cases hc; exact hne cur rfl)]; exact ho); have X3 := N3 _ _ X2 (fun cur e => by simp at e); have q3 : w3.cell? ⟨w.heap.size, 0, none⟩ = some (.slice as0 gs.length cs) := cell_of_row _ _ _ _ _ _ X3; have z3 : w3.frozen? ⟨w.heap.size, 0, none⟩ = false := frozen_of_row _ _ _ _ _ X3; have NM : Hid (Making w (w3.setCell ⟨w.heap.size, 0, none⟩ (.slice a3 (gs.length + 1) c3)) (k + 1) a3 c3 (gs ++ [wr.heap.size])) := (by
            have hel := set_else w3 w.heap.size 0 (.slice a3 (gs.length + 1) c3)
            refine ⟨by simp [GL.out], set_same _ _ _ _ _ _ _ X3 (by simp [rboxC]), ?_, fun g hg => ?_, ?_⟩
            · obtain ⟨h0, h1 | ⟨q, c', cur, h1, hg1, h2, h3⟩⟩ := r3
              · exact ⟨h0, .inl h1⟩
              · exact ⟨h0, .inr ⟨q, c', cur, h1, hg1, by rw [hel q (fun e => by subst e; rw [X3] at h2; simp at h2)]; exact h2, h3⟩⟩
            · have hrow : RowB w2 g 5 zeros ∧ w.heap.size ≤ g := by
                rcases List.mem_append.1 hg with hg | hg
                · exact ⟨(HM.out.secs g hg).1.keep B2.out, (HM.out.secs g hg).2⟩
                · simp at hg; subst hg; exact ⟨R2.out, by omega⟩
              refine ⟨?_, hrow.2⟩
              have h4 : w3.heap[g]? = some (.cells (cellsB zeros).toArray 5 (0, 0)) := N3 g _ (old_alloc hrow.1) (fun cur e => by simp at e)
              show (w3.setCell _ _).heap[g]? = _
              rw [hel g (fun e => by subst e; rw [X3] at h4; simp at h4)]
              exact h4
            · refine ((HM.out.below.trans (B2.out.mono (by omega))).alloc (by omega) (.cells #[secV wr.heap.size] 22)).trans ?_
              refine (⟨g3.os, g3.tape, g3.output, g3.size, fun j hj => g3.block j (by simp; omega) (fun e => by obtain ⟨h1, _⟩ := K2 j e.symm; omega)⟩ : Below w.heap.size _ w3).trans ((Only.set w.heap.size 0 _ w3).below (Nat.le_refl _))); clear X2 K2 N3 X3 r3 g3))
      all_goals
        go_wp2
        go_roundw
        case rel => exact ⟨k + 1, a3, c3, gs ++ [wr.heap.size], by omega, by go_num, NM.out⟩
        case measure => simp [intOf]; omega
    · obtain rfl : k = n := by omega
      clear hM
      go_wp2
      go_ret2
      exact ⟨as0, cs, gs, rfl, HM.out⟩
end Go.Proofs.YtofmicbhheebiaaDoor
