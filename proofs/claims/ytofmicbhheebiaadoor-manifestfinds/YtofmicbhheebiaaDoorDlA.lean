/- What the document's Arm, fails and Read answer. -/
import Derived.Test.YtofmicbhheebiaaDoorDkV
namespace Go.Proofs.YtofmicbhheebiaaDoor
open Go.RowKit Go.Maps
set_option linter.unusedVariables false
set_option maxRecDepth 4000

theorem RefAt.cell {w : World} {base br cs cw : Nat} {as0 aw : Option Addr} {gs hs : List Nat} {ok : Nat → Prop} {d : Dk} (h : RefAt w base br as0 cs gs aw cw hs ok d) (j : Nat) : w.cell? ⟨br, j, none⟩ = (rboxC as0 gs.length cs aw d.pend.length cw d)[j]? := cell_of_row w br j _ _ _ h.box
theorem RefAt.thawed {w : World} {base br cs cw : Nat} {as0 aw : Option Addr} {gs hs : List Nat} {ok : Nat → Prop} {d : Dk} (h : RefAt w base br as0 cs gs aw cw hs ok d) (j : Nat) : w.frozen? ⟨br, j, none⟩ = false := frozen_of_row w br j _ _ h.box

theorem owns_else {w w' : World} {base n s br : Nat} {e : TypeId} {v : Value} {xs : List Value} {cs : Array Value} {t : TypeId} (h : w.ownsRow base e s v n xs) (hb : w.heap[br]? = some (.cells cs t (0, 0))) (hte : t ≠ e) (he : ∀ i, i ≠ br → w'.heap[i]? = w.heap[i]?) : w'.ownsRow base e s v n xs := by
  obtain ⟨h0, h1 | ⟨g, c', cur, h1, hg, h2, h3⟩⟩ := h
  · exact ⟨h0, .inl h1⟩
  · exact ⟨h0, .inr ⟨g, c', cur, h1, hg, by rw [he g (fun e => by subst e; rw [hb] at h2; simp at h2; exact hte h2.2)]; exact h2, h3⟩⟩
theorem RowB.else' {w w' : World} {g br : Nat} {t t' : TypeId} {l : List Int} {cs : Array Value} (h : RowB w g t l) (hb : w.heap[br]? = some (.cells cs t' (0, 0))) (hte : t' ≠ t) (he : ∀ i, i ≠ br → w'.heap[i]? = w.heap[i]?) : RowB w' g t l := by
  show w'.heap[g]? = _
  rw [he g (fun e => by subst e; rw [show w.heap[g]? = _ from h] at hb; simp at hb; exact hte hb.2.symm)]
  exact h

theorem IsR.field {w w' : World} {base br : Nat} {ok : Nat → Prop} {d d' : Dk} (h : IsR w base br ok d) (hp : d'.pend = d.pend) (hn : d'.n = d.n) (hs : d'.sure = d.sure) (hok : DkOk d')
    (hb : ∀ as0 n cs aw k cw, w.heap[br]? = some (.cells (rboxC as0 n cs aw k cw d) 70 (0, 0)) → w'.heap[br]? = some (.cells (rboxC as0 n cs aw k cw d') 70 (0, 0))) (he : ∀ i, i ≠ br → w'.heap[i]? = w.heap[i]?) : IsR w' base br ok d' := by
  obtain ⟨as0, cs, gs, aw, cw, hss, h, _⟩ := h
  refine ⟨as0, cs, gs, aw, cw, hss, ⟨?_, owns_else h.sure h.box (by decide) he, ?_, h.gl.trans hn.symm, by rw [hp]; exact h.hl, fun i hi => ?_, fun k hk hk' => ?_, h.ge⟩, hok⟩
  · rw [hp]; exact hb _ _ _ _ _ _ h.box
  · rw [hp]; exact owns_else h.wait h.box (by decide) he
  · rw [hs]; exact ⟨(h.secs i hi).1.else' h.box (by decide) he, (h.secs i hi).2⟩
  · have hk2 : k < d.pend.length := by rw [← hp]; exact hk'
    have := h.pends k hk hk2
    simp only [hp]
    exact ⟨this.1.else' h.box (by decide) he, this.2⟩
theorem IsR.ge' {w : World} {base br : Nat} {ok : Nat → Prop} {d : Dk} (h : IsR w base br ok d) : base ≤ br ∧ ∃ cs, w.heap[br]? = some (.cells cs 70 (0, 0)) := by
  obtain ⟨as0, cs, gs, aw, cw, hss, h, _⟩ := h; exact ⟨h.ge, _, h.box⟩
theorem rset_turn {w : World} {base b j : Nat} {v : Value} {cs : Array Value} (h : w.heap[b]? = some (.cells cs 70 (0, 0))) (hb : base ≤ b) : Turn base KR w (w.setCell ⟨b, j, none⟩ v) := Turn.set h rfl hb

theorem rarm_any (base br : Nat) (ok : Nat → Prop) (d : Dk) (n : Int) (w : World) (h : IsR w base br ok d) (hn : -9223372036854775808 ≤ n ∧ n ≤ 9223372036854775807) :
    Calls Tryd.prog 10 #[.pointer (some ⟨br, 0, none⟩), .int .i64 n] w fun e w' => e = .returned (.tuple #[]) ∧ IsR w' base br ok (armD d n) ∧ Turn base KR w w' := by
  have H : Hid (IsR w base br ok d) := h
  have hok := armD_ok (n := n) h.ok' hn
  obtain ⟨hge, cs, hbx⟩ := h.ge'
  have HT : ∀ v, Turn base KR w (w.setCell ⟨br, 2, none⟩ v) := fun v => Turn.set hbx rfl hge
  obtain ⟨as0, cs', gs, aw, cw, hss, h, _⟩ := h
  have h2 : w.cell? ⟨br, 2, none⟩ = some (.int .i64 (max 0 d.left)) := h.cell 2
  have h3 : w.cell? ⟨br, 3, none⟩ = some (.bool d.down) := h.cell 3
  have hz := h.thawed 2
  clear h hbx
  cases hd : d.down
  · rw [hd] at h3
    have R : Hid (∀ v, v = max 0 n → IsR (w.setCell ⟨br, 2, none⟩ (.int .i64 v)) base br ok (armD d n)) := by
      intro v hv
      have e : armD d n = { d with left := n } := by simp [armD, hd]
      rw [e] at hok ⊢
      exact H.out.field rfl rfl rfl hok (fun as0 n' cs aw k cw hb => set_same _ _ _ _ _ _ _ hb (by simp [rboxC, hv])) (set_else _ _ _ _)
    have T : Hid (∀ v, Turn base KR w (w.setCell ⟨br, 2, none⟩ v)) := HT
    clear hd hok HT
    rcases Int.lt_trichotomy n 0 with h0 | rfl | h0
    · have e0 : max 0 n = 0 := by omega
      go_enter Tryd.func10, Tryd.ntmps10
      go_wp2
      go_end0
      exact ⟨rfl, R.out _ e0.symm, T.out _⟩
    · go_enter Tryd.func10, Tryd.ntmps10
      go_wp2
      go_end0
      exact ⟨rfl, R.out _ rfl, T.out _⟩
    · have e0 : max 0 n = n := by omega
      go_enter Tryd.func10, Tryd.ntmps10
      go_wp2
      go_end0
      exact ⟨rfl, R.out _ e0.symm, T.out _⟩
  · rw [hd] at h3
    have R : Hid (IsR w base br ok (armD d n)) := by
      have e : armD d n = d := by simp [armD, hd]
      rw [e]; exact H.out
    clear hd hok HT
    go_enter Tryd.func10, Tryd.ntmps10
    go_wp2
    go_end0
    exact ⟨rfl, R.out, Turn.refl _ _ _⟩

theorem ret_bool {a b : Bool} (h : a = b) : Ending.returned (.bool a) = .returned (.bool b) := by rw [h]

set_option maxHeartbeats 1000000 in
theorem fails_any (base br : Nat) (ok : Nat → Prop) (d : Dk) (w : World) (h : IsR w base br ok d) (ho : d.ops ≤ 1000000000) :
    Calls Tryd.prog 25 #[.pointer (some ⟨br, 0, none⟩)] w fun e w' => e = .returned (.bool (decide (d.left = 1))) ∧ IsR w' base br ok (workD d) ∧ Turn base KR w w' := by
  have H : Hid (IsR w base br ok d) := h
  have hok := workD_ok h.ok'
  obtain ⟨hge, cs, hbx⟩ := h.ge'
  have hl := h.ok'.left
  obtain ⟨as0, cs', gs, aw, cw, hss, h, _⟩ := h
  have h2 : w.cell? ⟨br, 2, none⟩ = some (.int .i64 (max 0 d.left)) := h.cell 2
  have h3 : w.cell? ⟨br, 3, none⟩ = some (.bool d.down) := h.cell 3
  have h4 : w.cell? ⟨br, 4, none⟩ = some (.int .i64 (d.ops : Nat)) := h.cell 4
  have z2 := h.thawed 2
  have z3 := h.thawed 3
  have z4 := h.thawed 4
  have B : Hid (w.heap[br]? = some (.cells cs 70 (0, 0))) := hbx
  have G : Hid (base ≤ br) := hge
  clear h hbx hge
  obtain ⟨L, hL⟩ : ∃ L, d.left = L := ⟨_, rfl⟩
  have EL : Hid (d.left = L) := hL
  rw [hL] at h2 hl
  have HK : Hid (DkOk (workD d)) := hok
  clear hL hok
  rcases Int.lt_trichotomy L 1 with h1 | rfl | h1
  · have e0 : max 0 L = 0 := by omega
    rw [e0] at h2
    have E : Hid (decide (d.left = 1) = false) := by show _ = _; rw [EL.out]; simp; omega
    have R : Hid (IsR (w.setCell ⟨br, 4, none⟩ (.int .i64 ((d.ops : Int) + 1))) base br ok (workD d)) := by
      refine H.out.field (workD_pend d) (workD_n d) (workD_sure d) HK.out (fun as0 n cs aw k cw hb => ?_) (fun i hi => by rw [set_else _ _ _ _ i hi])
      refine set_same _ _ _ _ _ _ _ hb ?_
      rw [workD, EL.out, if_neg (by omega), if_neg (by omega)]
      simp [rboxC, EL.out]
    have T : Hid (Turn base KR w (w.setCell ⟨br, 4, none⟩ (.int .i64 ((d.ops : Int) + 1)))) := Turn.set B.out rfl G.out
    have w2 := wrap_i64 (x := (d.ops : Int) + 1) (by omega)
    clear e0
    go_enter Tryd.func25, Tryd.ntmps25
    go_wp2
    go_ret
    exact ⟨ret_bool E.out.symm, R.out, T.out⟩
  · have E : Hid (decide (d.left = 1) = true) := by show _ = _; rw [EL.out]; rfl
    have e0 : max (0 : Int) 1 = 1 := by decide
    rw [e0] at h2
    have R : Hid (IsR ((w.setCell ⟨br, 2, none⟩ (.int .i64 0)).setCell ⟨br, 3, none⟩ (.bool true)) base br ok (workD d)) := by
      refine H.out.field (workD_pend d) (workD_n d) (workD_sure d) HK.out (fun as0 n cs aw k cw hb => ?_) (fun i hi => by rw [set_else _ _ _ _ i hi, set_else _ _ _ _ i hi])
      refine set_same _ _ _ _ _ _ _ (set_same _ _ _ _ _ _ _ hb rfl) ?_
      rw [workD, EL.out, if_pos rfl]
      simp [rboxC]
    have T : Hid (Turn base KR w ((w.setCell ⟨br, 2, none⟩ (.int .i64 0)).setCell ⟨br, 3, none⟩ (.bool true))) := by
      have b1 := set_same w br 2 (.int .i64 0) _ _ _ B.out rfl
      exact (Turn.set B.out rfl G.out).trans (Turn.set b1 rfl G.out)
    clear e0
    go_enter Tryd.func25, Tryd.ntmps25
    go_wp2
    go_ret
    exact ⟨ret_bool E.out.symm, R.out, T.out⟩
  · have e0 : max 0 L = L := by omega
    rw [e0] at h2
    have E : Hid (decide (d.left = 1) = false) := by show _ = _; rw [EL.out]; simp; omega
    have R : Hid (IsR ((w.setCell ⟨br, 2, none⟩ (.int .i64 (L - 1))).setCell ⟨br, 4, none⟩ (.int .i64 ((d.ops : Int) + 1))) base br ok (workD d)) := by
      refine H.out.field (workD_pend d) (workD_n d) (workD_sure d) HK.out (fun as0 n cs aw k cw hb => ?_) (fun i hi => by rw [set_else _ _ _ _ i hi, set_else _ _ _ _ i hi])
      refine set_same _ _ _ _ _ _ _ (set_same _ _ _ _ _ _ _ hb rfl) ?_
      rw [workD, EL.out, if_neg (by omega), if_pos h1]
      have e1 : max 0 (L - 1) = L - 1 := by omega
      simp [rboxC, e1]
    have T : Hid (Turn base KR w ((w.setCell ⟨br, 2, none⟩ (.int .i64 (L - 1))).setCell ⟨br, 4, none⟩ (.int .i64 ((d.ops : Int) + 1)))) := by
      have b1 := set_same w br 2 (.int .i64 (L - 1)) _ _ _ B.out rfl
      exact (Turn.set B.out rfl G.out).trans (Turn.set b1 rfl G.out)
    have w1 := wrap_i64 (x := L - 1) (by omega)
    have w2 := wrap_i64 (x := (d.ops : Int) + 1) (by omega)
    have ne : ¬ L = 1 := by omega
    clear e0
    go_enter Tryd.func25, Tryd.ntmps25
    go_wp2
    go_ret
    exact ⟨ret_bool E.out.symm, R.out, T.out⟩

theorem rread_closed (base br : Nat) (ok : Nat → Prop) (d : Dk) (i : Int) (w : World) (h : IsR w base br ok d) (hc : closedE d i ≠ 0) :
    Calls Tryd.prog 33 #[.pointer (some ⟨br, 0, none⟩), .int .i64 i] w fun e w' => e = .returned (.tuple #[.slice none 0 0, .int .i64 (closedE d i)]) ∧ w = w' := by
  obtain ⟨as0, cs', gs, aw, cw, hss, h, _⟩ := h
  have h0 : w.cell? ⟨br, 0, none⟩ = some (.slice as0 gs.length cs') := h.cell 0
  have h3 : w.cell? ⟨br, 3, none⟩ = some (.bool d.down) := h.cell 3
  have hg := h.gl
  rw [hg] at h0
  clear h
  cases hd : d.down
  · rw [hd] at h3
    have E : closedE d i = 2 := by
      unfold closedE at hc ⊢
      rw [hd] at hc ⊢
      simp at hc ⊢
      exact hc
    have hr : i < 0 ∨ (¬ i < 0 ∧ (d.n : Int) ≤ i) := by
      unfold closedE at hc; rw [hd] at hc; simp at hc; omega
    rw [E]
    clear hc hd E hg
    rcases hr with hr | ⟨hr, hr2⟩
    all_goals
      go_enter Tryd.func33, Tryd.ntmps33
      go_wp2
      go_ret2
      exact ⟨rfl, rfl⟩
  · rw [hd] at h3
    have E : closedE d i = 14 := by simp [closedE, hd]
    rw [E]
    clear hc hd E hg
    go_enter Tryd.func33, Tryd.ntmps33
    go_wp2
    go_ret2
    exact ⟨rfl, rfl⟩

set_option maxHeartbeats 2000000 in
theorem rread_open (base br : Nat) (ok : Nat → Prop) (d : Dk) (i : Int) (w : World) (h : IsR w base br ok d) (hc : closedE d i = 0) (hpl : d.pend.length ≤ 1000000) :
    Calls Tryd.prog 33 #[.pointer (some ⟨br, 0, none⟩), .int .i64 i] w fun e w' => ∃ g, e = .returned (.tuple #[.slice (some ⟨g, 0, none⟩) 64 64, .int .i64 0]) ∧ RowB w' g 5 (readL d i) ∧ Below w.heap.size w w' := by
  have HR : Hid (readL d i = lastB d.pend i.toNat (d.sure i.toNat)) := by show readL d i = _; rw [readL, if_pos hc]
  obtain ⟨hd, hi0, hi1⟩ := closedE_zero.1 hc
  have hok := h.ok'
  have few := hok.few
  obtain ⟨k, rfl⟩ : ∃ k : Nat, i = k := ⟨i.toNat, by omega⟩
  rw [Int.toNat_natCast] at HR
  obtain ⟨as0, cs, gs, aw, cw, hs, h, _⟩ := h
  have h0 : w.cell? ⟨br, 0, none⟩ = some (.slice as0 gs.length cs) := h.cell 0
  have h1 : w.cell? ⟨br, 1, none⟩ = some (.slice aw d.pend.length cw) := h.cell 1
  have h3 : w.cell? ⟨br, 3, none⟩ = some (.bool d.down) := h.cell 3
  rw [hd] at h3
  have HA : Hid (RefAt w base br as0 cs gs aw cw hs ok d) := h
  have hkg : k < gs.length := by rw [h.gl]; omega
  obtain ⟨g, rfl, _, _, _, hgk, _⟩ := h.sure.cell hkg
  have S0 : Hid (RowB w gs[k] 5 (d.sure k)) := (h.secs k hkg).1
  obtain ⟨y, hy⟩ : ∃ y, gs[k] = y := ⟨_, rfl⟩
  rw [hy] at hgk S0
  unfold secV at hgk
  have hgl := h.gl
  rw [hgl] at h0
  have OKW : Hid (DkOk d) := hok
  obtain ⟨X, hX⟩ : ∃ X, readL d (k : Int) = X := ⟨_, rfl⟩
  have XL : Hid (X.length = 64 ∧ AllB X) := by show _ ∧ _; rw [← hX]; exact readL_ok OKW.out hc
  rw [hX] at HR ⊢
  clear h hc hy hkg hok hX
  go_enter Tryd.func33, Tryd.ntmps33
  go_wp2
  go_loopw [6, 36] (fun ov jv wr => ∃ (j q : Nat), j ≤ d.pend.length ∧ jv = .int .i64 (j : Nat) ∧ ov = .slice (some ⟨q, 0, none⟩) 64 64 ∧ RowB wr q 5 (lastB (d.pend.take j) k (d.sure k)) ∧ Below w.heap.size w wr) (fun _ jv _ => d.pend.length - (intOf jv).toNat)
  case atStart => exact ⟨0, y, Nat.zero_le _, rfl, rfl, S0.out, Below.refl _ _⟩
  case round =>
    obtain ⟨j, q, hj, rfl, rfl, hR, hB⟩ := hrel
    rename World => wr
    have HRow : Hid (RowB wr q 5 (lastB (d.pend.take j) k (d.sure k))) := hR
    have HB : Hid (Below w.heap.size w wr) := hB
    by_cases hlt : j < d.pend.length
    · have hzl : j < (zipQ d.pend hs).length := by rw [zipQ_len HA.out.hl]; exact hlt
      have hw := HA.out.wait
      have hzq := zipQ_len HA.out.hl
      obtain ⟨gw, haw, _, hcw, ⟨cur, hcur⟩, c0, c1⟩ := hw.cell hzl
      subst haw
      have hgw : gw < w.heap.size := (Array.getElem?_eq_some_iff.1 hcur).1
      rw [zipQ_at hlt (by rw [HA.out.hl]; exact hlt)] at c0 c1
      have PB : Hid (RowB w (hs[j]'(by rw [HA.out.hl]; exact hlt)) 5 d.pend[j].by) := (HA.out.pends j (by rw [HA.out.hl]; exact hlt) hlt).1
      have LT := lastB_take d.pend j hlt k (d.sure k)
      obtain ⟨x, hx⟩ : ∃ x, d.pend[j] = x := ⟨_, rfl⟩
      obtain ⟨hq, hhq⟩ : ∃ hq, hs[j]'(by rw [HA.out.hl]; exact hlt) = hq := ⟨_, rfl⟩
      have hxn := OKW.out.wr d.pend[j] (List.getElem_mem hlt)
      simp only [hx, hhq] at c0 c1
      rw [hx] at LT hxn
      rw [hhq, hx] at PB
      unfold secV at c1
      have r0 : wr.cell? ⟨gw, j * 2, none⟩ = some (.int .i64 (x.at : Nat)) := (hB.cell (p := ⟨gw, j * 2, none⟩) hgw).trans c0
      have r1 : wr.cell? ⟨gw, j * 2 + 1, none⟩ = some (.slice (some ⟨hq, 0, none⟩) 64 64) := (hB.cell (p := ⟨gw, j * 2 + 1, none⟩) hgw).trans c1
      have hcw2 : d.pend.length ≤ cw := by rw [← hzq]; exact hcw
      have NB : Hid (Below w.heap.size w (wr.alloc (.cells #[.int .i64 (x.at : Nat), .slice (some ⟨hq, 0, none⟩) 64 64] 79))) := hB.alloc hB.size _
      have xat := hxn.1
      clear hR hB c0 c1 hw hcur hzl hcw hxn
      by_cases he : x.at = k
      · have NR : Hid (RowB (wr.alloc (.cells #[.int .i64 (x.at : Nat), .slice (some ⟨hq, 0, none⟩) 64 64] 79)) hq 5 (lastB (d.pend.take (j + 1)) k (d.sure k))) := by
          show RowB _ _ _ _
          rw [LT, if_pos he]
          exact PB.out.keep NB.out
        have HE : Hid (x.at = k) := he
        have dec : ((x.at : Nat) : Int) = (k : Nat) := by omega
        clear LT he
        rw [dec] at r0 NR NB
        go_wp2
        go_roundw
        case rel => exact ⟨j + 1, hq, by omega, by go_num, rfl, NR.out, NB.out⟩
        case measure => simp [intOf]; omega
      · have NR : Hid (RowB (wr.alloc (.cells #[.int .i64 (x.at : Nat), .slice (some ⟨hq, 0, none⟩) 64 64] 79)) q 5 (lastB (d.pend.take (j + 1)) k (d.sure k))) := by
          show RowB _ _ _ _
          rw [LT, if_neg he]
          exact HRow.out.keep ((Below.refl _ _).alloc (Nat.le_refl _) _)
        have dec : ¬ ((x.at : Nat) : Int) = (k : Nat) := by omega
        have dec2 : (((x.at : Nat) : Int) == (k : Nat)) = false := by simp; omega
        clear LT
        go_wp2
        go_roundw
        case rel => exact ⟨j + 1, q, by omega, by go_num, rfl, NR.out, NB.out⟩
        case measure => simp [intOf]; omega
    · obtain rfl : j = d.pend.length := by omega
      clear hR hB
      rw [List.take_length, ← HR.out] at HRow
      go_wp2_with (go_at_call 21; refine (rsector_any _ _ _ X _ XL.out.1.symm (HRow.out.isB XL.out.2) (by rw [XL.out.1]; decide)).mono ?_; rw [secL_full XL.out.1]; rintro e w5 ⟨rfl, r5, b5⟩)
      go_ret2
      exact ⟨_, rfl, r5, HB.out.trans (b5.mono HB.out.size)⟩
end Go.Proofs.YtofmicbhheebiaaDoor
