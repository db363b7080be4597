/- What the document's Crash does. -/
import Derived.Test.YtddkmmkhlfjhiaaDlC
import Derived.Deep.CutRange
namespace Go.Proofs.Ytddkmmkhlfjhiaa
open Go.RowKit Go.Maps
set_option linter.unusedVariables false

theorem RSettling.drew {w wr : World} {base br cs cw k : Nat} {as0 aw : Option Addr} {gs hs : List Nat} {ok : Nat → Prop} {keep : Nat → Nat} {d : Dk} (h : RSettling w wr base br as0 cs gs aw cw hs ok keep d k) : RSettling w wr.drew base br as0 cs gs aw cw hs ok keep d k :=
  ⟨h.box, h.sure, h.wait, h.gl, h.hl, h.secs, h.pends, h.ge, h.turn.drew⟩

theorem keep_of (l : List Int) (k : Nat) : keepN l k = (max (min (l.getD k 0) 64) 0).toNat := rfl

set_option maxHeartbeats 16000000 in
theorem rcrash_any (base br : Nat) (ok : Nat → Prop) (d : Dk) (ka : Option Addr) (kn kc : Nat) (l : List Int) (w : World) (h : IsR w base br ok d) (hbase : base ≤ w.heap.size) (hnew : ∀ g, w.heap.size ≤ g → ok g) (hpl : d.pend.length ≤ 900000) (hn : kn = l.length) (hl : l.length ≤ 9223372036854775807) (hI : ∀ w', Turn base KR w w' → IsI w' ka l) :
    Calls Try.prog 24 #[.pointer (some ⟨br, 0, none⟩), .slice ka kn kc] w fun e w' => e = .returned (.tuple #[]) ∧ IsR w' base br ok (crashD d l) ∧ Turn base KR w w' := by
  subst hn
  have HI : Hid (∀ w', Turn base KR w w' → IsI w' ka l) := hI
  have OKN : Hid (∀ g, w.heap.size ≤ g → ok g) := hnew
  have OK1 : Hid (DkOk d) := h.ok'
  have few := OK1.out.few
  obtain ⟨as0, cs, gs0, aw, cw, hs, hA, _⟩ := h
  have k1 : w.cell? ⟨br, 1, none⟩ = some (.slice aw d.pend.length cw) := hA.cell 1
  have C0 : Hid (RSettling w w base br as0 cs gs0 aw cw hs ok (keepN l) d 0) := hA.settling _
  clear hA hI hnew
  go_enter Try.func24, Try.ntmps24
  go_wp2
  go_loopw [14] (fun iv wr => ∃ (k : Nat) (gs : List Nat), k ≤ d.pend.length ∧ iv = .int .i64 (k : Nat) ∧ RSettling w wr base br as0 cs gs aw cw hs ok (keepN l) d k) (fun iv _ => d.pend.length - (intOf iv).toNat)
  case atStart => exact ⟨0, gs0, Nat.zero_le _, rfl, C0.out⟩
  case round =>
    clear C0 k1
    obtain ⟨k, gs, hk, rfl, hC⟩ := hrel
    rename World => wr
    have HC : Hid (RSettling w wr base br as0 cs gs aw cw hs ok (keepN l) d k) := hC
    by_cases hlt : k < d.pend.length
    · have hzl : k < (zipQ d.pend hs).length := by rw [zipQ_len hC.hl]; exact hlt
      have hzq := zipQ_len hC.hl
      obtain ⟨gw, rfl, _, hcw, ⟨cur, hcur⟩, c0, c1⟩ := hC.wait.cell hzl
      have hkh : k < hs.length := by rw [hC.hl]; exact hlt
      rw [zipQ_at hlt hkh] at c0 c1
      have PB : Hid (RowB wr hs[k] 5 d.pend[k].by) := (hC.pends k hkh hlt).1
      have hxn := OK1.out.wr d.pend[k] (List.getElem_mem hlt)
      have hatg : d.pend[k].at < gs.length := by rw [hC.gl]; exact hxn.1
      obtain ⟨g, rfl, hge, _, hcg, hgk, hgz⟩ := hC.sure.cell (i := d.pend[k].at) hatg
      have YB : Hid (RowB wr gs[d.pend[k].at] 5 (layAll (keepN l) 0 (d.pend.take k) d.sure d.pend[k].at)) := (hC.secs _ hatg).1
      have SG : Hid (base ≤ g ∧ ∃ cur, wr.heap[g]? = some (.cells cur 32 (0, 0))) := ⟨hge, hcg⟩
      have hgw : g < wr.heap.size := by obtain ⟨cu, hcu⟩ := hcg; exact (Array.getElem?_eq_some_iff.1 hcu).1
      obtain ⟨y, hgy⟩ : ∃ y, gs[d.pend[k].at] = y := ⟨_, rfl⟩
      rw [hgy] at hgk YB
      have hbrw : br < wr.heap.size := (Array.getElem?_eq_some_iff.1 hC.box).1
      have hbg : br ≠ g := by rintro rfl; obtain ⟨cu, hcu⟩ := hcg; rw [hC.box] at hcu; simp at hcu
      have k0 : wr.cell? ⟨br, 0, none⟩ = some (.slice (some ⟨g, 0, none⟩) gs.length cs) := cell_of_row _ _ _ _ _ _ hC.box
      have glen : gs.length = d.n := hC.gl
      rw [glen] at k0
      obtain ⟨x, hx⟩ : ∃ x, d.pend[k] = x := ⟨_, rfl⟩
      have EX : Hid (d.pend[k] = x) := hx
      obtain ⟨hq, hhq⟩ : ∃ hq, hs[k] = hq := ⟨_, rfl⟩
      simp only [hx, hhq] at c0 c1
      simp only [hx] at hgk hgz hxn YB
      rw [hhq] at PB
      simp only [hx] at PB
      unfold secV at c1 hgk
      have XL : Hid (x.by.length = 64 ∧ AllB x.by) := hxn.2
      have hxa := hxn.1
      have hcw2 : d.pend.length ≤ cw := by rw [← hzq]; exact hcw
      have SL := layAll_ok (keepN l) (d.pend.take k) 0 d.sure OK1.out.sec (fun y hy => OK1.out.wr y (List.mem_of_mem_take hy)) x.at hxa
      obtain ⟨S, hS⟩ : ∃ S, layAll (keepN l) 0 (d.pend.take k) d.sure x.at = S := ⟨_, rfl⟩
      have ES : Hid (layAll (keepN l) 0 (d.pend.take k) d.sure x.at = S) := hS
      rw [hS] at YB SL
      have HSL : Hid (S.length = 64 ∧ AllB S) := SL
      have BA : Hid (Below wr.heap.size wr (wr.alloc (.cells #[.int .i64 (x.at : Nat), .slice (some ⟨hq, 0, none⟩) 64 64] 76))) := (Below.refl _ wr).alloc (Nat.le_refl _) _
      have s0 : (wr.alloc (.cells #[.int .i64 (x.at : Nat), .slice (some ⟨hq, 0, none⟩) 64 64] 76)).cell? ⟨wr.heap.size, 0, none⟩ = some (.int .i64 (x.at : Nat)) := cell_of_row _ _ _ _ _ _ (Go.heap_alloc_new wr _)
      have s1 : (wr.alloc (.cells #[.int .i64 (x.at : Nat), .slice (some ⟨hq, 0, none⟩) 64 64] 76)).cell? ⟨wr.heap.size, 1, none⟩ = some (.slice (some ⟨hq, 0, none⟩) 64 64) := cell_of_row _ _ _ _ _ _ (Go.heap_alloc_new wr _)
      have s2 : (wr.alloc (.cells #[.int .i64 (x.at : Nat), .slice (some ⟨hq, 0, none⟩) 64 64] 76)).cell? ⟨br, 0, none⟩ = some (.slice (some ⟨g, 0, none⟩) d.n cs) := Lib.cell?_alloc_some _ k0
      have s3 : (wr.alloc (.cells #[.int .i64 (x.at : Nat), .slice (some ⟨hq, 0, none⟩) 64 64] 76)).cell? ⟨g, x.at, none⟩ = some (.slice (some ⟨y, 0, none⟩) 64 64) := Lib.cell?_alloc_some _ hgk
      have KI : Hid (IsI (wr.alloc (.cells #[.int .i64 (x.at : Nat), .slice (some ⟨hq, 0, none⟩) 64 64] 76)) ka l) := HI.out _ (HC.out.turn.alloc _)
      have szA : (wr.alloc (.cells #[.int .i64 (x.at : Nat), .slice (some ⟨hq, 0, none⟩) 64 64] 76)).heap.size = wr.heap.size + 1 := by simp
      have hxi : (x.at : Int) < (d.n : Int) := by omega
      obtain ⟨K, hK⟩ : ∃ K, keepN l k = K := ⟨_, rfl⟩
      have EK : Hid (keepN l k = K) := hK
      have hK64 : K ≤ 64 := by rw [← hK]; exact keepN_le l k
      have CS : Hid ((∃ v : Int, k < l.length ∧ l.getD k 0 = v ∧ (v < 0 ∧ K = 0 ∨ v = 0 ∧ K = 0 ∨ 0 < v ∧ v < 64 ∧ v = (K : Nat) ∨ v = 64 ∧ K = 64 ∨ 64 < v ∧ K = 64)) ∨ (¬ k < l.length ∧ K = 0)) := by
        show _ ∨ _
        by_cases hkl : k < l.length
        · exact .inl ⟨_, hkl, rfl, by rw [← hK, keep_of]; exact keep_cases _⟩
        · refine .inr ⟨hkl, ?_⟩
          rw [← hK, keepN, List.getD_eq_getElem?_getD, List.getElem?_eq_none (by omega)]; rfl
      clear hC hcur hzl hcw hx hhq hcg hge glen hkh hS SL hK hgy hatg
      go_upto_if 22 with (fail)
      generalize wr.alloc (.cells #[.int .i64 (x.at : Nat), .slice (some ⟨hq, 0, none⟩) 64 64] 76) = wA at BA s0 s1 s2 s3 KI szA ⊢
      have zA : wr.heap.size < wA.heap.size := by omega
      have HSZ : Hid (wA.heap.size = wr.heap.size + 1) := szA
      clear szA
      go_cut [6] from 19 to 28 (fun v wx => v = .int .i64 (K : Nat) ∧ wA = wx)
      case first =>
        clear BA s0 s1 s2 s3 EX ES EK PB YB SG
        rcases CS.out with ⟨v, hkl, hv, hvs⟩ | ⟨hkl, hK0⟩
        · obtain ⟨hb, rfl | ⟨b, off, rfl, hs', hc⟩⟩ := KI.out
          · simp at hkl
          · have hcell := hc k hkl
            rw [hv] at hcell
            clear hc hv hb KI CS HI
            rcases hvs with ⟨h1, rfl⟩ | ⟨rfl, rfl⟩ | ⟨h1, h2, rfl⟩ | ⟨rfl, rfl⟩ | ⟨h1, rfl⟩
            all_goals
              go_wp2
              go_meet
              exact ⟨rfl, rfl⟩
        · subst hK0
          clear KI CS
          go_wp2
          go_meet
          exact ⟨rfl, rfl⟩
      case rest =>
        obtain ⟨rfl, rfl⟩ := hcut
        clear CS KI
        have hyw : y < wA.heap.size := (YB.out.keep BA.out).lt
        go_wp2_with fail
        go_region_held3 (fun w' => w'.cell? ⟨br, 0, none⟩ = some (.slice (some ⟨g, 0, none⟩) d.n cs) ∧ w'.cell? ⟨wr.heap.size, 0, none⟩ = some (.int .i64 (x.at : Nat)) ∧ w'.cell? ⟨g, x.at, none⟩ = some (.slice (some ⟨y, 0, none⟩) 64 64)) (first | assumption | exact ⟨by assumption, by assumption, by assumption⟩ | go_keep) (first
          | (go_at_call 34; refine (rsector_any _ _ _ S _ HSL.out.1.symm ?_ (by rw [HSL.out.1]; decide)).mono ?_; exact (YB.out.keep BA.out).isB HSL.out.2; rw [secL_full HSL.out.1]; rintro e w2 ⟨rfl, r2, b2⟩; have B2 : Hid (Below wA.heap.size wA w2) := ⟨b2.os, b2.tape, b2.output, b2.size, b2.block⟩; have R2 : Hid (RowB w2 wA.heap.size 5 S) := r2; have p0 : w2.cell? ⟨br, 0, none⟩ = some (.slice (some ⟨g, 0, none⟩) d.n cs) := (B2.out.cell (p := ⟨br, 0, none⟩) (by show br < wA.heap.size; omega)).trans s2; have p1 : w2.cell? ⟨wr.heap.size, 0, none⟩ = some (.int .i64 (x.at : Nat)) := (B2.out.cell (p := ⟨wr.heap.size, 0, none⟩) zA).trans s0; have p3 : w2.cell? ⟨g, x.at, none⟩ = some (.slice (some ⟨y, 0, none⟩) 64 64) := (B2.out.cell (p := ⟨g, x.at, none⟩) (by show g < wA.heap.size; omega)).trans s3; clear r2 b2))
        have hw2 : wA.heap.size < w2.heap.size := R2.out.lt
        have p2 : w2.cell? ⟨wr.heap.size, 1, none⟩ = some (.slice (some ⟨hq, 0, none⟩) 64 64) := (B2.out.cell (p := ⟨wr.heap.size, 1, none⟩) zA).trans s1
        have BW : Hid (Below wr.heap.size wr w2) := BA.out.trans (B2.out.mono (by omega))
        have hgz2 : w2.frozen? ⟨g, x.at, none⟩ = false := (BW.out.frozen (p := ⟨g, x.at, none⟩) hgw).trans hgz
        have PB2 : Hid (RowB w2 hq 5 x.by) := PB.out.keep BW.out
        have hhw : hq < wr.heap.size := PB.out.lt
        clear s0 s1 s2 s3
        have OX : Hid (∀ j, j ≤ 64 → (over j x.by S).length = 64) := fun j hj => by unfold over; rw [List.length_append, List.length_take, List.length_drop, XL.out.1, HSL.out.1]; omega
        go_wp2_with fail
        go_loopw [8] (fun jv wx => ∃ j : Nat, j ≤ K ∧ jv = .int .i64 (j : Nat) ∧ RowB wx wA.heap.size 5 (over j x.by S) ∧ Only wA.heap.size w2 wx) (fun jv _ => K - (intOf jv).toNat)
        case atStart => exact ⟨0, Nat.zero_le _, rfl, by rw [over_none]; exact R2.out, Only.refl _ _⟩
        case round =>
          obtain ⟨j, hj, rfl, hR, hO⟩ := hrel
          rename World => wx
          have HR : Hid (RowB wx wA.heap.size 5 (over j x.by S)) := hR
          have HO : Hid (Only wA.heap.size w2 wx) := hO
          have o0 := (hO.cell (p := ⟨br, 0, none⟩) (by show br ≠ _; omega)).trans p0
          have o1 := (hO.cell (p := ⟨wr.heap.size, 0, none⟩) (by show wr.heap.size ≠ _; omega)).trans p1
          have o3 := (hO.cell (p := ⟨g, x.at, none⟩) (by show g ≠ _; omega)).trans p3
          by_cases hjl : j < K
          · have hj64 : j < 64 := by omega
            have o2 := (hO.cell (p := ⟨wr.heap.size, 1, none⟩) (by show wr.heap.size ≠ _; omega)).trans p2
            have hcz := hR.cell j (by rw [OX.out j (by omega)]; exact hj64)
            have hfz := hR.thawed j
            have hcx := (hO.row PB2.out (by omega)).cell j (by rw [XL.out.1]; exact hj64)
            obtain ⟨v, hv⟩ : ∃ v, x.by.getD j 0 = v := ⟨_, rfl⟩
            have NX : Hid (RowB (wx.setCell ⟨wA.heap.size, j, none⟩ (.int .u8 v)) wA.heap.size 5 (over (j + 1) x.by S)) := by
              have := hR.set j v
              rw [← hv, over_set (by rw [XL.out.1]; exact hj64) (by rw [HSL.out.1]; exact hj64)] at this
              rw [← hv]; exact this
            have OX2 : Hid (Only wA.heap.size w2 (wx.setCell ⟨wA.heap.size, j, none⟩ (.int .u8 v))) := hO.trans (Only.set _ _ _ _)
            rw [hv] at hcx
            clear hR hO hv p0 p1 p2 p3 o0 o1 o3
            go_wp2
            go_roundw
            case rel => exact ⟨j + 1, by omega, by go_num, NX.out, OX2.out⟩
            case measure => simp [intOf]; omega
          · obtain rfl : j = K := by omega
            have BX : Hid (Below wr.heap.size wr wx) := BW.out.trans (hO.below (by omega))
            have o4 : wx.frozen? ⟨g, x.at, none⟩ = false := (BX.out.frozen (p := ⟨g, x.at, none⟩) hgw).trans hgz
            have e0 : (wx.setCell ⟨g, x.at, none⟩ (.slice (some ⟨wA.heap.size, 0, none⟩) 64 64)).cell? ⟨br, 0, none⟩ = some (.slice (some ⟨g, 0, none⟩) d.n cs) := (World.cell?_of_block (set_else wx g x.at _ br hbg)).trans o0
            have e1 : (wx.setCell ⟨g, x.at, none⟩ (.slice (some ⟨wA.heap.size, 0, none⟩) 64 64)).cell? ⟨wr.heap.size, 0, none⟩ = some (.int .i64 (x.at : Nat)) := (World.cell?_of_block (set_else wx g x.at _ wr.heap.size (by omega))).trans o1
            clear hR hO p0 p1 p2 p3 hgz2
            go_wp2_with fail
            go_region_held3 (fun w' => w'.cell? ⟨br, 0, none⟩ = some (.slice (some ⟨g, 0, none⟩) d.n cs) ∧ w'.cell? ⟨wr.heap.size, 0, none⟩ = some (.int .i64 (x.at : Nat))) (first | assumption | exact ⟨by assumption, by assumption⟩ | go_keep) (fail)
            have NX : Hid (RSettling w (wx.setCell ⟨g, x.at, none⟩ (secV wA.heap.size)) base br (some ⟨g, 0, none⟩) cs (gs.set x.at wA.heap.size) (some ⟨gw, 0, none⟩) cw hs ok (keepN l) d (k + 1)) := by
              have := HC.out.next (q := wA.heap.size) (w4 := wx) hlt (by rw [EX.out]; exact hxa) SG.out.1 SG.out.2 BX.out (by rw [EX.out, ES.out, EK.out]; exact HR.out) (OKN.out _ (by have := HC.out.turn.size; omega))
              rw [EX.out] at this
              exact this
            clear o0 o1 o3 o4 e0 e1
            go_wp2
            go_roundw
            case rel => exact ⟨k + 1, _, by omega, by go_num, NX.out.drew⟩
            case measure => simp [intOf]; omega
    · obtain rfl : k = d.pend.length := by omega
      have j1 : wr.cell? ⟨br, 1, none⟩ = some (.slice aw d.pend.length cw) := cell_of_row _ _ _ _ _ _ hC.box
      have j2 : wr.cell? ⟨br, 2, none⟩ = some (.int .i64 (max 0 d.left)) := cell_of_row _ _ _ _ _ _ hC.box
      have j3 : wr.cell? ⟨br, 3, none⟩ = some (.bool d.down) := cell_of_row _ _ _ _ _ _ hC.box
      have z1 : wr.frozen? ⟨br, 1, none⟩ = false := frozen_of_row _ _ _ _ _ hC.box
      have z2 : wr.frozen? ⟨br, 2, none⟩ = false := frozen_of_row _ _ _ _ _ hC.box
      have z3 : wr.frozen? ⟨br, 3, none⟩ = false := frozen_of_row _ _ _ _ _ hC.box
      have b1 := set_same wr br 1 (.slice none 0 0) _ _ _ hC.box rfl
      have b2 := set_same _ br 2 (.int .i64 0) _ _ _ b1 rfl
      have FIN : Hid (IsR (((wr.setCell ⟨br, 1, none⟩ (.slice none 0 0)).setCell ⟨br, 2, none⟩ (.int .i64 0)).setCell ⟨br, 3, none⟩ (.bool false)) base br ok (crashD d l)) :=
        hC.done (crashD_ok OK1.out) rfl rfl rfl (set_same _ _ _ _ _ _ _ b2 (by simp [rboxC, crashD, settleD])) (fun i hi => by rw [set_else _ _ _ _ i hi, set_else _ _ _ _ i hi, set_else _ _ _ _ i hi])
      have TF : Hid (Turn base KR w (((wr.setCell ⟨br, 1, none⟩ (.slice none 0 0)).setCell ⟨br, 2, none⟩ (.int .i64 0)).setCell ⟨br, 3, none⟩ (.bool false))) := ((hC.turn.trans (rset_turn hC.box hC.ge)).trans (rset_turn b1 hC.ge)).trans (rset_turn b2 hC.ge)
      clear hC b1 b2
      go_wp2
      go_end0
      exact ⟨rfl, FIN.out, TF.out⟩
end Go.Proofs.Ytddkmmkhlfjhiaa
