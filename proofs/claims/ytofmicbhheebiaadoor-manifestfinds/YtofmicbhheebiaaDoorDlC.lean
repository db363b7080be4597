/- What the document's Flush answers. -/
import Derived.Test.YtofmicbhheebiaaDoorDlB
namespace Go.Proofs.YtofmicbhheebiaaDoor
open Go.RowKit Go.Maps
set_option linter.unusedVariables false
set_option maxRecDepth 4000

/-- Under way: so many writes have been laid over what is sure. -/
structure RSettling (w wr : World) (base br : Nat) (as0 : Option Addr) (cs : Nat) (gs : List Nat) (aw : Option Addr) (cw : Nat) (hs : List Nat) (ok : Nat → Prop) (keep : Nat → Nat) (d : Dk) (k : Nat) : Prop where
  box : wr.heap[br]? = some (.cells (rboxC as0 gs.length cs aw d.pend.length cw d) 70 (0, 0))
  sure : RowG wr base as0 gs cs
  wait : RowQ wr base aw (zipQ d.pend hs) cw
  gl : gs.length = d.n
  hl : hs.length = d.pend.length
  secs : ∀ i (h : i < gs.length), RowB wr gs[i] 5 (layAll keep 0 (d.pend.take k) d.sure i) ∧ ok gs[i]
  pends : ∀ k (h : k < hs.length) (h' : k < d.pend.length), RowB wr hs[k] 5 d.pend[k].by ∧ ok hs[k]
  ge : base ≤ br
  turn : Turn base KR w wr

/-- One write more is laid: a new sector stands in the row. -/
theorem RSettling.next {w wr w4 : World} {base br cs cw k g q : Nat} {aw : Option Addr} {gs hs : List Nat} {ok : Nat → Prop} {keep : Nat → Nat} {d : Dk} (h : RSettling w wr base br (some ⟨g, 0, none⟩) cs gs aw cw hs ok keep d k) (hk : k < d.pend.length) (hat : d.pend[k].at < d.n) (hge : base ≤ g)
    (hcur : ∃ cur, wr.heap[g]? = some (.cells cur 22 (0, 0))) (hb : Below wr.heap.size wr w4) (hq : RowB w4 q 5 (over (keep k) d.pend[k].by (layAll keep 0 (d.pend.take k) d.sure d.pend[k].at))) (hok : ok q) :
    RSettling w (w4.setCell ⟨g, d.pend[k].at, none⟩ (secV q)) base br (some ⟨g, 0, none⟩) cs (gs.set d.pend[k].at q) aw cw hs ok keep d (k + 1) := by
  have keepW : ∀ (i : Nat) (o : Obj), wr.heap[i]? = some o → w4.heap[i]? = some o := fun i o ho => by rw [hb.block i (Array.getElem?_eq_some_iff.1 ho).1]; exact ho
  obtain ⟨cur, hcur⟩ := hcur
  have hc4 := keepW g _ hcur
  have hel := set_else w4 g d.pend[k].at (secV q)
  have hrow : ∀ g' l', RowB w4 g' 5 l' → RowB (w4.setCell ⟨g, d.pend[k].at, none⟩ (secV q)) g' 5 l' := fun g' l' hr => RowB.else' hr hc4 (by decide) hel
  refine ⟨?_, ?_, ?_, by rw [List.length_set]; exact h.gl, h.hl, fun i hi => ?_, fun j hj hj' => ⟨hrow _ _ ((h.pends j hj hj').1.keep hb), (h.pends j hj hj').2⟩, h.ge, ?_⟩
  · rw [List.length_set, hel br (fun e => by have := keepW _ _ h.box; rw [e, hc4] at this; simp at this)]
    exact keepW _ _ h.box
  · have h1 : RowG w4 base (some ⟨g, 0, none⟩) gs cs := owns_keepK (K := fun _ => true) h.sure (fun _ => rfl) (fun i o ho _ => keepW i o ho)
    exact h1.set (by rw [h.gl]; exact hat)
  · have h1 : RowQ w4 base aw (zipQ d.pend hs) cw := owns_keepK (K := fun _ => true) h.wait (fun _ => rfl) (fun i o ho _ => keepW i o ho)
    exact owns_else h1 hc4 (by decide) hel
  · rw [layAll_step keep d.pend k hk]
    have hi' : i < gs.length := by simpa using hi
    rw [List.getElem_set]
    unfold updS
    by_cases e : d.pend[k].at = i
    · rw [if_pos e, if_pos e.symm]
      exact ⟨hrow _ _ hq, hok⟩
    · rw [if_neg e, if_neg (fun e' => e e'.symm)]
      exact ⟨hrow _ _ ((h.secs i hi').1.keep hb), (h.secs i hi').2⟩
  · exact (h.turn.trans (Turn.ofBelow hb)).trans (Turn.set hc4 rfl hge)

/-- The end: nothing is pending. -/
theorem RSettling.done {w wr w' : World} {base br cs cw : Nat} {as0 aw : Option Addr} {gs hs : List Nat} {ok : Nat → Prop} {keep : Nat → Nat} {d d' : Dk} (h : RSettling w wr base br as0 cs gs aw cw hs ok keep d d.pend.length) (hok : DkOk d') (hn : d'.n = d.n) (hs' : d'.sure = layAll keep 0 d.pend d.sure) (hp : d'.pend = [])
    (hb : w'.heap[br]? = some (.cells (rboxC as0 gs.length cs none 0 0 d') 70 (0, 0))) (he : ∀ i, i ≠ br → w'.heap[i]? = wr.heap[i]?) : IsR w' base br ok d' := by
  refine ⟨as0, cs, gs, none, 0, [], ⟨by rw [hp]; exact hb, owns_else h.sure h.box (by decide) he, by rw [hp]; exact rowQ_nil _ _, h.gl.trans hn.symm, by rw [hp]; rfl, fun i hi => ?_, fun k hk => by (simp at hk), h.ge⟩, hok⟩
  have := h.secs i hi
  rw [List.take_length] at this
  rw [hs']
  exact ⟨this.1.else' h.box (by decide) he, this.2⟩

theorem RefAt.settling {w : World} {base br cs cw : Nat} {as0 aw : Option Addr} {gs hs : List Nat} {ok : Nat → Prop} {d : Dk} (h : RefAt w base br as0 cs gs aw cw hs ok d) (keep : Nat → Nat) : RSettling w w base br as0 cs gs aw cw hs ok keep d 0 :=
  ⟨h.box, h.sure, h.wait, h.gl, h.hl, fun i hi => h.secs i hi, h.pends, h.ge, Turn.refl _ _ _⟩

theorem rflush_down (base br : Nat) (ok : Nat → Prop) (d : Dk) (w : World) (h : IsR w base br ok d) (hd : d.down = true) :
    Calls Tryd.prog 12 #[.pointer (some ⟨br, 0, none⟩)] w fun e w' => e = .returned (.int .i64 14) ∧ w = w' := by
  obtain ⟨as0, cs, gs, aw, cw, hs, h, _⟩ := h
  have h3 : w.cell? ⟨br, 3, none⟩ = some (.bool d.down) := h.cell 3
  rw [hd] at h3
  clear h hd
  go_enter Tryd.func12, Tryd.ntmps12
  go_wp2
  go_ret
  exact ⟨rfl, rfl⟩

theorem rflush_fails (base br : Nat) (ok : Nat → Prop) (d : Dk) (w : World) (h : IsR w base br ok d) (hd : d.down = false) (hl : d.left = 1) (ho : d.ops ≤ 1000000000) :
    Calls Tryd.prog 12 #[.pointer (some ⟨br, 0, none⟩)] w fun e w' => e = .returned (.int .i64 14) ∧ IsR w' base br ok (workD d) ∧ Turn base KR w w' := by
  have H : Hid (IsR w base br ok d) := h
  obtain ⟨as0, cs, gs, aw, cw, hs, h, _⟩ := h
  have h3 : w.cell? ⟨br, 3, none⟩ = some (.bool d.down) := h.cell 3
  rw [hd] at h3
  have E : Hid (decide (d.left = 1) = true) := by show _ = _; simp [hl]
  clear h hd hl
  go_enter Tryd.func12, Tryd.ntmps12
  go_wp2_with (go_at_call 25; refine (fails_any base br ok d _ H.out ho).mono ?_; rw [E.out]; rintro e w1 ⟨rfl, i1, t1⟩)
  go_ret
  exact ⟨rfl, i1, t1⟩

set_option maxHeartbeats 4000000 in
theorem rflush_ok (base br : Nat) (ok : Nat → Prop) (d : Dk) (w : World) (h : IsR w base br ok d) (hbase : base ≤ w.heap.size) (hnew : ∀ g, w.heap.size ≤ g → ok g) (hd : d.down = false) (hl : ¬ d.left = 1) (ho : d.ops ≤ 1000000000) (hpl : d.pend.length ≤ 900000) :
    Calls Tryd.prog 12 #[.pointer (some ⟨br, 0, none⟩)] w fun e w' => e = .returned (.int .i64 0) ∧ IsR w' base br ok (settleD (fun _ => 64) (workD d)) ∧ Turn base KR w w' := by
  have H : Hid (IsR w base br ok d) := h
  obtain ⟨as0, cs, gs, aw, cw, hs, h, _⟩ := h
  have h3 : w.cell? ⟨br, 3, none⟩ = some (.bool d.down) := h.cell 3
  rw [hd] at h3
  have E : Hid (decide (d.left = 1) = false) := by show _ = _; simp [hl]
  have OKN : Hid (∀ g, w.heap.size ≤ g → ok g) := hnew
  obtain ⟨D, hD⟩ : ∃ D, workD d = D := ⟨_, rfl⟩
  have ED : Hid (workD d = D) := hD
  have PL : Hid (D.pend.length ≤ 900000) := by show _ ≤ _; rw [← hD, workD_pend]; exact hpl
  rw [hD]
  clear h hd hl hnew hD hpl
  go_enter Tryd.func12, Tryd.ntmps12
  go_wp2_with fail
  refine (fails_any base br ok d _ H.out ho).mono ?_
  rw [E.out, ED.out]
  rintro e w1 ⟨rfl, i1, t1⟩
  have OK1 : Hid (DkOk D) := i1.ok'
  obtain ⟨as0, cs, gs0, aw, cw, hs, hA, _⟩ := i1
  have T1 : Hid (Turn base KR w w1) := t1
  have z1 := t1.size
  have few := OK1.out.few
  have k1 : w1.cell? ⟨br, 1, none⟩ = some (.slice aw D.pend.length cw) := hA.cell 1
  have C0 : Hid (RSettling w1 w1 base br as0 cs gs0 aw cw hs ok (fun _ => 64) D 0) := hA.settling _
  have GL : Hid (gs0.length = D.n) := hA.gl
  have hpl := PL.out
  clear hA t1 H PL E
  go_wp2
  go_loopw [18] (fun iv wr => ∃ (k : Nat) (gs : List Nat), k ≤ D.pend.length ∧ iv = .int .i64 (k : Nat) ∧ RSettling w1 wr base br as0 cs gs aw cw hs ok (fun _ => 64) D k) (fun iv _ => D.pend.length - (intOf iv).toNat)
  case atStart => exact ⟨0, gs0, Nat.zero_le _, rfl, C0.out⟩
  case round =>
    clear C0 k1
    obtain ⟨k, gs, hk, rfl, hC⟩ := hrel
    rename World => wr
    have HC : Hid (RSettling w1 wr base br as0 cs gs aw cw hs ok (fun _ => 64) D k) := hC
    by_cases hlt : k < D.pend.length
    · have hzl : k < (zipQ D.pend hs).length := by rw [zipQ_len hC.hl]; exact hlt
      have hzq := zipQ_len hC.hl
      obtain ⟨gw, rfl, _, hcw, ⟨cur, hcur⟩, c0, c1⟩ := hC.wait.cell hzl
      have hkh : k < hs.length := by rw [hC.hl]; exact hlt
      rw [zipQ_at hlt hkh] at c0 c1
      have PB : Hid (RowB wr hs[k] 5 D.pend[k].by) := (hC.pends k hkh hlt).1
      have hxn := OK1.out.wr D.pend[k] (List.getElem_mem hlt)
      obtain ⟨g, rfl, hge, _, hcg, hgk, hgz⟩ := hC.sure.cell (i := D.pend[k].at) (by rw [hC.gl]; exact hxn.1)
      have SG : Hid (base ≤ g ∧ ∃ cur, wr.heap[g]? = some (.cells cur 22 (0, 0))) := ⟨hge, hcg⟩
      have hgw : g < wr.heap.size := by obtain ⟨cu, hcu⟩ := hcg; exact (Array.getElem?_eq_some_iff.1 hcu).1
      obtain ⟨y, hgy⟩ : ∃ y, wr.cell? ⟨g, D.pend[k].at, none⟩ = some (secV y) := ⟨_, hgk⟩
      have hbrw : br < wr.heap.size := (Array.getElem?_eq_some_iff.1 hC.box).1
      have hbg : br ≠ g := by rintro rfl; obtain ⟨cu, hcu⟩ := hcg; rw [hC.box] at hcu; simp at hcu
      have k0 : wr.cell? ⟨br, 0, none⟩ = some (.slice (some ⟨g, 0, none⟩) gs.length cs) := cell_of_row _ _ _ _ _ _ hC.box
      have glen : gs.length = D.n := hC.gl
      rw [glen] at k0
      obtain ⟨x, hx⟩ : ∃ x, D.pend[k] = x := ⟨_, rfl⟩
      have EX : Hid (D.pend[k] = x) := hx
      obtain ⟨hq, hhq⟩ : ∃ hq, hs[k] = hq := ⟨_, rfl⟩
      simp only [hx, hhq] at c0 c1
      rw [hx] at hgy hgz hxn
      rw [hx, hhq] at PB
      unfold secV at c1
      have XL : Hid (x.by.length = 64 ∧ AllB x.by) := hxn.2
      have hxa := hxn.1
      have hcw2 : D.pend.length ≤ cw := by rw [← hzq]; exact hcw
      have OV : Hid (over 64 x.by (layAll (fun _ => 64) 0 (D.pend.take k) D.sure x.at) = x.by) := over_all XL.out.1 (layAll_ok _ (D.pend.take k) 0 D.sure OK1.out.sec (fun y hy => OK1.out.wr y (List.mem_of_mem_take hy)) x.at hxa).1
      clear hC hcur hzl hcw hx hhq hgk hcg hge glen hkh
      -- the write, copied
      have BA : Hid (Below wr.heap.size wr (wr.alloc (.cells #[.int .i64 (x.at : Nat), .slice (some ⟨hq, 0, none⟩) 64 64] 79))) := (Below.refl _ wr).alloc (Nat.le_refl _) _
      have s0 : (wr.alloc (.cells #[.int .i64 (x.at : Nat), .slice (some ⟨hq, 0, none⟩) 64 64] 79)).cell? ⟨wr.heap.size, 0, none⟩ = some (.int .i64 (x.at : Nat)) := cell_of_row _ _ _ _ _ _ (Go.heap_alloc_new wr _)
      have s1 : (wr.alloc (.cells #[.int .i64 (x.at : Nat), .slice (some ⟨hq, 0, none⟩) 64 64] 79)).cell? ⟨wr.heap.size, 1, none⟩ = some (.slice (some ⟨hq, 0, none⟩) 64 64) := cell_of_row _ _ _ _ _ _ (Go.heap_alloc_new wr _)
      have s2 : (wr.alloc (.cells #[.int .i64 (x.at : Nat), .slice (some ⟨hq, 0, none⟩) 64 64] 79)).cell? ⟨br, 0, none⟩ = some (.slice (some ⟨g, 0, none⟩) D.n cs) := Lib.cell?_alloc_some _ k0
      have szA : (wr.alloc (.cells #[.int .i64 (x.at : Nat), .slice (some ⟨hq, 0, none⟩) 64 64] 79)).heap.size = wr.heap.size + 1 := by simp
      go_wp2_with fail
      generalize wr.alloc (.cells #[.int .i64 (x.at : Nat), .slice (some ⟨hq, 0, none⟩) 64 64] 79) = wA at BA s0 s1 s2 szA ⊢
      have zA : wr.heap.size < wA.heap.size := by omega
      have hxi : (x.at : Int) < (D.n : Int) := by omega
      have HSZ : Hid (wA.heap.size = wr.heap.size + 1) := szA
      clear szA
      go_region_held3 (fun w' => w'.cell? ⟨br, 0, none⟩ = some (.slice (some ⟨g, 0, none⟩) D.n cs) ∧ w'.cell? ⟨wr.heap.size, 0, none⟩ = some (.int .i64 (x.at : Nat)) ∧ w'.cell? ⟨wr.heap.size, 1, none⟩ = some (.slice (some ⟨hq, 0, none⟩) 64 64)) (first | assumption | exact ⟨by assumption, by assumption, by assumption⟩ | go_keep) (first
        | (go_at_call 21; refine (rsector_any _ _ _ x.by _ XL.out.1.symm ?_ (by rw [XL.out.1]; decide)).mono ?_; exact (PB.out.keep BA.out).isB XL.out.2; rw [secL_full XL.out.1]; rintro e w2 ⟨rfl, r2, b2⟩; have B2 : Hid (Below wA.heap.size wA w2) := ⟨b2.os, b2.tape, b2.output, b2.size, b2.block⟩; have R2 : Hid (RowB w2 wA.heap.size 5 x.by) := r2; have p0 : w2.cell? ⟨br, 0, none⟩ = some (.slice (some ⟨g, 0, none⟩) D.n cs) := (B2.out.cell (p := ⟨br, 0, none⟩) (by show br < wA.heap.size; omega)).trans s2; have p1 : w2.cell? ⟨wr.heap.size, 0, none⟩ = some (.int .i64 (x.at : Nat)) := (B2.out.cell (p := ⟨wr.heap.size, 0, none⟩) zA).trans s0; have p2 : w2.cell? ⟨wr.heap.size, 1, none⟩ = some (.slice (some ⟨hq, 0, none⟩) 64 64) := (B2.out.cell (p := ⟨wr.heap.size, 1, none⟩) zA).trans s1; have BW : Hid (Below wr.heap.size wr w2) := BA.out.trans (B2.out.mono (by omega)); have t2 : w2.cell? ⟨g, x.at, none⟩ = some (secV y) := (BW.out.cell (p := ⟨g, x.at, none⟩) hgw).trans hgy; have u2 : w2.frozen? ⟨g, x.at, none⟩ = false := (BW.out.frozen (p := ⟨g, x.at, none⟩) hgw).trans hgz; have e0 : (w2.setCell ⟨g, x.at, none⟩ (.slice (some ⟨wA.heap.size, 0, none⟩) 64 64)).cell? ⟨br, 0, none⟩ = some (.slice (some ⟨g, 0, none⟩) D.n cs) := (World.cell?_of_block (set_else w2 g x.at _ br hbg)).trans p0; have e1 : (w2.setCell ⟨g, x.at, none⟩ (.slice (some ⟨wA.heap.size, 0, none⟩) 64 64)).cell? ⟨wr.heap.size, 0, none⟩ = some (.int .i64 (x.at : Nat)) := (World.cell?_of_block (set_else w2 g x.at _ wr.heap.size (by omega))).trans p1; have e2 : (w2.setCell ⟨g, x.at, none⟩ (.slice (some ⟨wA.heap.size, 0, none⟩) 64 64)).cell? ⟨wr.heap.size, 1, none⟩ = some (.slice (some ⟨hq, 0, none⟩) 64 64) := (World.cell?_of_block (set_else w2 g x.at _ wr.heap.size (by omega))).trans p2; clear r2 b2))
      have NX : Hid (RSettling w1 (w2.setCell ⟨g, x.at, none⟩ (secV wA.heap.size)) base br (some ⟨g, 0, none⟩) cs (gs.set x.at wA.heap.size) (some ⟨gw, 0, none⟩) cw hs ok (fun _ => 64) D (k + 1)) := by
        have := HC.out.next (q := wA.heap.size) hlt (by rw [EX.out]; exact hxa) SG.out.1 SG.out.2 BW.out (by rw [EX.out, OV.out]; exact R2.out) (OKN.out _ (by have := HC.out.turn.size; omega))
        rw [EX.out] at this
        exact this
      clear p0 p1 p2 t2 u2 e0 e1 e2 s0 s1 s2
      go_wp2
      go_roundw
      case rel => exact ⟨k + 1, _, by omega, by go_num, NX.out⟩
      case measure => simp [intOf]; omega
    · obtain rfl : k = D.pend.length := by omega
      have k1 : wr.cell? ⟨br, 1, none⟩ = some (.slice aw D.pend.length cw) := cell_of_row _ _ _ _ _ _ hC.box
      have z1' : wr.frozen? ⟨br, 1, none⟩ = false := frozen_of_row _ _ _ _ _ hC.box
      have FIN : Hid (IsR (wr.setCell ⟨br, 1, none⟩ (.slice none 0 0)) base br ok (settleD (fun _ => 64) D)) :=
        hC.done (settleD_ok OK1.out) rfl rfl rfl (set_same _ _ _ _ _ _ _ hC.box (by simp [rboxC, settleD])) (set_else _ _ _ _)
      have TF : Hid (Turn base KR w (wr.setCell ⟨br, 1, none⟩ (.slice none 0 0))) := (T1.out.trans hC.turn).trans (rset_turn hC.box hC.ge)
      clear hC
      go_wp2
      go_ret
      exact ⟨rfl, FIN.out, TF.out⟩

theorem rflush_any (base br : Nat) (ok : Nat → Prop) (d : Dk) (w : World) (h : IsR w base br ok d) (hbase : base ≤ w.heap.size) (hnew : ∀ g, w.heap.size ≤ g → ok g) (ho : d.ops ≤ 1000000000) (hpl : d.pend.length ≤ 900000) :
    Calls Tryd.prog 12 #[.pointer (some ⟨br, 0, none⟩)] w fun e w' => e = .returned (.int .i64 (flushE d)) ∧ IsR w' base br ok (flushD d) ∧ Turn base KR w w' := by
  cases hd : d.down
  · by_cases h1 : d.left = 1
    · have e1 : flushE d = 14 := by simp [flushE, hd, workE, h1]
      have e2 : flushD d = workD d := by simp [flushD, hd, h1]
      rw [e1, e2]
      exact rflush_fails base br ok d w h hd h1 ho
    · have e1 : flushE d = 0 := by simp [flushE, hd, workE, h1]
      have e2 : flushD d = settleD (fun _ => 64) (workD d) := by simp [flushD, hd, h1]
      rw [e1, e2]
      exact rflush_ok base br ok d w h hbase hnew hd h1 ho hpl
  · have e1 : flushE d = 14 := by simp [flushE, hd]
    have e2 : flushD d = d := by simp [flushD, hd]
    rw [e1, e2]
    refine (rflush_down base br ok d w h hd).mono ?_
    rintro e w' ⟨rfl, rfl⟩
    exact ⟨rfl, h, Turn.refl _ _ _⟩
end Go.Proofs.YtofmicbhheebiaaDoor
