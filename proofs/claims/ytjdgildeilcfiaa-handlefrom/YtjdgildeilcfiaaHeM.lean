/- What the law HandleFrom goes through. -/
import Derived.Test.YtjdgildeilcfiaaHgJ
import Derived.Test.YtjdgildeilcfiaaHfD
namespace Go.Proofs.Ytjdgildeilcfiaa
open Go.RowKit
set_option linter.unusedVariables false

set_option maxHeartbeats 1000000 in
theorem same_cr (B : Nat) (wr : World) (b : Nat) (a : Option Addr) (c mb mg n : Nat) (L : List Rw) (h : Ct wr B b a c n L ∧ Rt wr mb mg n L) :
    Calls Try.prog 13 #[.pointer (some ⟨b, 0, none⟩), .pointer (some ⟨mb, 0, none⟩)] wr fun e w' => e = .returned (.bool true) ∧ Below wr.heap.size wr w' := by
  have H : Hid (Ct wr B b a c n L ∧ Rt wr mb mg n L) := h
  have hl := h.1.len
  have hv : (liveF 0 L).length ≤ 4096 := by have := liveF_len L 0; omega
  clear h
  go_enter Try.func13, Try.ntmps13
  go_wp2_with fail
  refine (rows_any B b a c n L _ H.out.1).mono ?_
  rintro e w1 ⟨a1, c1, rfl, o1, b1⟩
  have B1 : Hid (Below wr.heap.size wr w1) := b1
  have O1 : Hid (Ow w1 wr.heap.size a1 L c1) := o1
  clear o1 b1
  go_wp2_with fail
  refine (rrows_any mb mg n L _ (H.out.2.keep B1.out)).mono ?_
  rintro e w2 ⟨a2, c2, rfl, o2, b2⟩
  have B2 : Hid (Below wr.heap.size wr w2) := B1.out.trans (b2.mono B1.out.size)
  have W1 : Hid (IsW w2 a1 L) := (O1.out.isW).keep b2
  have W2 : Hid (IsW w2 a2 L) := o2.isW
  clear o2 b2
  go_wp2_with fail
  refine (same_true a1 a2 c1 c2 L _ W1.out W2.out (by omega)).mono ?_
  rintro e w3 ⟨rfl, m3, rfl⟩
  obtain ⟨wq, hwq⟩ : ∃ wq, w2.drewN m3 = wq := ⟨_, rfl⟩
  have B3 : Hid (Below wr.heap.size wr wq) := by show Below _ _ _; rw [← hwq]; exact ⟨B2.out.os, B2.out.tape, B2.out.output, B2.out.size, B2.out.block⟩
  rw [hwq]
  clear hwq
  go_wp2_with fail
  refine (live_any B b a c n L _ (H.out.1.keep B3.out)).mono ?_
  rintro e w4 ⟨a4, c4, rfl, o4, b4⟩
  have B4 : Hid (Below wr.heap.size wr w4) := B3.out.trans (b4.mono B3.out.size)
  have O4 : Hid (Oh w4 wq.heap.size a4 (liveF 0 L) c4) := o4
  clear o4 b4
  go_wp2_with fail
  refine (rlive_any mb mg n L _ (H.out.2.keep B4.out)).mono ?_
  rintro e w5 ⟨a5, c5, rfl, o5, b5⟩
  have B5 : Hid (Below wr.heap.size wr w5) := B4.out.trans (b5.mono B4.out.size)
  have V1 : Hid (IsH w5 a4 (liveF 0 L)) := (O4.out.isH).keep b5
  have V2 : Hid (IsH w5 a5 (liveF 0 L)) := o5.isH
  clear o5 b5
  go_wp2_with fail
  refine (handles_true a4 a5 c4 c5 (liveF 0 L) _ V1.out V2.out (by omega)).mono ?_
  rintro e w6 ⟨rfl, m6, rfl⟩
  obtain ⟨wp, hwp⟩ : ∃ wp, w5.drewN m6 = wp := ⟨_, rfl⟩
  have B6 : Hid (Below wr.heap.size wr wp) := by show Below _ _ _; rw [← hwp]; exact ⟨B5.out.os, B5.out.tape, B5.out.output, B5.out.size, B5.out.block⟩
  rw [hwp]
  clear hwp
  obtain ⟨T, hT⟩ : ∃ T, decide (n ≤ nxL L) = T := ⟨_, rfl⟩
  have ET : Hid (decide (n ≤ nxL L) = T) := hT
  clear hT
  go_wp2_with (first
    | (go_at_call 25; refine (full_any B b a c n L _ (H.out.1.keep B6.out)).mono ?_; rw [ET.out]; rintro e w7 ⟨rfl, b7⟩; have B7 : Hid (Below wr.heap.size wr w7) := B6.out.trans (b7.mono B6.out.size); clear b7)
    | (go_at_call 32; refine (rfull_any mb mg n L _ (H.out.2.keep B7.out)).mono ?_; rw [ET.out]; rintro e w8 ⟨rfl, b8⟩; have B8 : Hid (Below wr.heap.size wr w8) := B7.out.trans (b8.mono B7.out.size); clear b8))
  go_ret
  exact ⟨ret_bool (by simp), B8.out⟩

/-- Rows that came in, appended to none of one's own. -/
theorem appW_in (w : World) (a : Option Addr) (l : List Rw) (cx : Nat) (h : IsW w a l) (hnil : a = none → l = [] ∧ cx = 0) (hl : l.length ≤ 4398046511104) :
    ∃ a' c' w', (Builtin.append_ #[40, 40] 40 #[.slice (some ⟨w.heap.size, 0, none⟩) 0 0, .slice a l.length cx]).run Try.prog (w.alloc (.cells #[] 44)) = .ok (.slice a' l.length c') w' ∧ Ow w' w.heap.size a' l c' ∧ Below w.heap.size w w' := by
  obtain ⟨i0, hi, hz0, hz2, hz3⟩ := info_parts Try.infoW
  have o := Ow.made w w.heap.size (Nat.le_refl _)
  have bz : Below w.heap.size w (w.alloc (.cells #[] 44)) := (Below.refl _ w).alloc (Nat.le_refl _) _
  rcases a with _ | ad
  · obtain ⟨rfl, rfl⟩ := hnil rfl
    exact ⟨some ⟨w.heap.size, 0, none⟩, 0, _, run_append_owned_none (P := Try.prog) _ w.heap.size 40 40 44 i0 4 Try.undRows hi _ _ _ o, o, bz⟩
  · rcases h with rfl | ⟨b, off, e, _, hc⟩
    · obtain ⟨v', w', hr, h2, h3, _, h4⟩ := run_append_own_at (P := Try.prog) (w.alloc (.cells #[] 44)) w.heap.size 40 40 44 i0 _ 4 32 Try.undRows hi hz0 hz2 hz3 rfl (by decide) (.slice (some ⟨w.heap.size, 0, none⟩) 0 0) 0 [] o ad 0 cx [] rfl (fun j u hj => by simp at hj) (fun u hu => by cases hu) (by unfold maxLen; omega) (by omega) (by simp)
      obtain ⟨a', cap', rfl⟩ := owns_form h2
      rw [ob_own] at h3
      exact ⟨a', cap', w', hr, h2, bz.trans ((Tu.grown (S := fun k => w.heap.size ≤ k) h3 (fun g hg => by have : w.heap.size = g := Option.some.inj hg; omega)).below (fun i hi => hi) (by simp))⟩
    · cases e
      obtain ⟨a', c', w', hrun, o', u, _⟩ := appW_run 40 w.heap.size (w.alloc (.cells #[] 44)) (by simp) (some ⟨w.heap.size, 0, none⟩) [] 0 o b off l cx (fun i hi => by
        obtain ⟨k0, k1, k2, k3⟩ := hc i hi
        exact ⟨Lib.cell?_alloc_some _ k0, Lib.cell?_alloc_some _ k1, Lib.cell?_alloc_some _ k2, Lib.cell?_alloc_some _ k3⟩) (by simpa using hl)
      simp only [List.length_nil, Nat.zero_add, List.nil_append] at hrun o'
      exact ⟨a', c', w', hrun, o', bz.trans (u.below (fun i hi => by have : w.heap.size = i := Option.some.inj hi; omega) (by simp))⟩
theorem Ow.len0 {w : World} {B : Nat} {a : Option Addr} {l : List Rw} {c : Nat} (h : Ow w B a l c) : l.length ≤ 9223372036854775807 := by have := h.len; omega

set_option maxRecDepth 4000 in
set_option maxHeartbeats 2000000 in
theorem handleFrom_any (most : Int) (a1 : Option Addr) (cap1 : Nat) (l1 : List Rw) (a2 : Option Addr) (cap2 : Nat) (l2 : List Cl) (w : World) (hm : -9223372036854775808 ≤ most ∧ most ≤ 9223372036854775807) (h1 : IsW w a1 l1) (h1n : a1 = none → l1 = [] ∧ cap1 = 0) (h2 : IsC w a2 l2) (hl1 : l1.length ≤ 4398046511104) (hl2 : l2.length ≤ maxLen) :
    Calls Try.prog 4 #[.int .i64 most, .slice a1 l1.length cap1, .slice a2 l2.length cap2] w fun e w' => e = .returned (.bool true) ∧ Below w.heap.size w w' := by
  have H1 : Hid (IsW w a1 l1) := h1
  have HN1 : Hid (a1 = none → l1 = [] ∧ cap1 = 0) := h1n
  have H2 : Hid (IsC w a2 l2) := h2
  unfold maxLen at hl2
  clear h1 h2 h1n
  go_enter Try.func4, Try.ntmps4
  go_wp2_with fail
  refine (alive_any _).mono ?_
  rintro e w1 ⟨rfl, b1⟩
  have B1 : Hid (Below w.heap.size w w1) := b1
  have z1 := b1.size
  obtain ⟨ai, ci, w2, hrun, o2, b2⟩ := appW_in w1 a1 l1 cap1 (H1.out.keep b1) HN1.out hl1
  have O2 : Hid (Ow w2 w.heap.size ai l1 ci) := o2.mono z1
  have B2 : Hid (Below w.heap.size w w2) := b1.trans (b2.mono z1)
  have z2 := B2.out.size
  have W2 : Hid (IsW w2 a1 l1) := H1.out.keep B2.out
  have HI : Hid ((ai = none → l1 = [] ∧ ci = 0) ∧ ∀ ad, ai = some ad → ad.spot = none) := ⟨fun e => by have q := O2.out; subst e; exact q.no, O2.out.spot⟩
  clear b1 o2 b2
  go_wp2_with (at_builtin; refine step_app rfl 40 _ _ rfl (.slice (some ⟨w1.heap.size, 0, none⟩) 0 0) (.slice a1 l1.length cap1) (.slice ai l1.length ci) w2 rfl rfl hrun ?_)
  clear hrun
  by_cases hr : most < 1 ∨ 4096 < most
  · go_wp2_with (first
      | (go_at_call 14; refine (from_arg most _ _ hr).mono ?_; rintro e w3 ⟨rfl, rfl⟩)
      | (go_at_call 11; refine (rfrom_arg most _ _ hr).mono ?_; rintro e w3 ⟨rfl, rfl⟩)
      | (go_at_call 15; refine (same_true ai a1 ci cap1 l1 _ O2.out.isW W2.out (by omega)).mono ?_; rintro e w8 ⟨rfl, m8, rfl⟩))
    go_ret
    exact ⟨rfl, ⟨B2.out.os, B2.out.tape, B2.out.output, B2.out.size, B2.out.block⟩⟩
  · obtain ⟨n, rfl⟩ : ∃ n : Nat, most = n := ⟨most.toNat, by omega⟩
    have hn1 : 1 ≤ n := by omega
    have hn2 : n ≤ 4096 := by omega
    clear hr hm
    by_cases hg : Gd n l1
    · have HG : Hid (Gd n l1) := hg
      have hlen := hg.len
      clear hg
      go_wp2_with fail
      refine (from_ok n ai ci l1 _ O2.out.isW HI.out.1 HI.out.2 HG.out).mono ?_
      rintro e w3 ⟨b, ab, cb, rfl, k3, b3⟩
      have K3 : Hid (Ct w3 w2.heap.size b ab cb n l1) := k3
      have B3 : Hid (Below w2.heap.size w2 w3) := b3
      have z3 := b3.size
      clear k3 b3
      go_wp2_with fail
      refine (rfrom_any n a1 cap1 l1 _ (W2.out.keep B3.out) hn1 hn2 hlen).mono ?_
      rintro e w4 ⟨b4, q4⟩
      obtain ⟨mb, hmb⟩ : ∃ mb, w3.heap.size + 1 = mb := ⟨_, rfl⟩
      obtain ⟨mg, hmg⟩ : ∃ mg, w3.heap.size = mg := ⟨_, rfl⟩
      have Q4 : e = .returned (.tuple #[.pointer (some ⟨mb, 0, none⟩), .int .i64 0]) ∧ Rt w4 mb mg n l1 := by
        rcases q4 with ⟨_, q, r⟩ | ⟨q, _⟩
        · rw [hmb] at q; rw [hmb, hmg] at r; exact ⟨q, r⟩
        · exact absurd HG.out q
      obtain ⟨rfl, r4⟩ := Q4
      have R4 : Hid (Rt w4 mb mg n l1) := r4
      have K4 : Hid (Ct w4 w2.heap.size b ab cb n l1) := K3.out.keep b4
      have NE : Hid (ob ab ≠ some mg) := fun e => by have := (K3.out.row.ge _ e).2; omega
      have GM : Hid (w2.heap.size ≤ mg ∧ w2.heap.size ≤ mb) := ⟨by omega, by omega⟩
      have B4 : Hid (Below w2.heap.size w2 w4) := B3.out.trans (b4.mono z3)
      clear q4 r4 b4 hmb hmg K3 B3
      obtain ⟨l, hl⟩ : ∃ l, l1.length = l := ⟨_, rfl⟩
      have EL : Hid (l1.length = l) := hl
      have SM : Hid (Calls Try.prog 15 #[.slice ai l ci, .slice a1 l cap1] w4 fun e w' => e = .returned (.bool true) ∧ ∃ m, w' = w4.drewN m) := by
        have q := same_true ai a1 ci cap1 l1 w4 (O2.out.isW.keep B4.out) (W2.out.keep B4.out) (by omega)
        rw [hl] at q
        exact q
      rw [hl] at hlen hl1 ⊢
      clear hl
      go_wp2_with fail
      refine SM.out.mono ?_
      rintro e w8 ⟨rfl, m8, rfl⟩
      obtain ⟨w5, hw5⟩ : ∃ w5, w4.drewN m8 = w5 := ⟨_, rfl⟩
      have K5 : Hid (Ct w5 w2.heap.size b ab cb n l1) := by show Ct _ _ _ _ _ _ _; rw [← hw5]; exact K4.out.drewN m8
      have R5 : Hid (Rt w5 mb mg n l1) := by show Rt _ _ _ _ _; rw [← hw5]; exact R4.out.drewN m8
      have O5 : Hid (Ow w5 w.heap.size ai l1 ci) := by show Ow _ _ _ _ _; rw [← hw5]; exact (O2.out.keep B4.out).same (fun g o _ ho => ho)
      have B5 : Hid (Below w.heap.size w w5) := by
        have q := B2.out.trans (B4.out.mono z2)
        show Below _ _ _; rw [← hw5]; exact ⟨q.os, q.tape, q.output, q.size, q.block⟩
      have GI : Hid (∀ g, ob ai = some g → g < w2.heap.size) := fun g hg => (O2.out.ge g hg).2
      rw [hw5]
      clear hw5 SM K4 R4 B4
      go_wp2
      go_loopw [48] (fun jv wy => ∃ (j : Nat) (xs : List Rw), j ≤ l ∧ jv = .int .i64 (j : Nat) ∧ xs.length = l ∧ Ow wy w.heap.size ai xs ci ∧ Ct wy w2.heap.size b ab cb n l1 ∧ Rt wy mb mg n l1 ∧ Below w.heap.size w wy) (fun jv _ => l - (intOf jv).toNat)
      case atStart => exact ⟨0, l1, Nat.zero_le _, rfl, EL.out, O5.out, K5.out, R5.out, B5.out⟩
      case round =>
        clear K5 R5 O5 B5
        obtain ⟨j, xs, hj, rfl, hxl, hO, hK, hR, hB⟩ := hrel
        rename World => wy
        have HO : Hid (Ow wy w.heap.size ai xs ci) := hO
        have HK : Hid (Ct wy w2.heap.size b ab cb n l1) := hK
        have HR : Hid (Rt wy mb mg n l1) := hR
        have HB : Hid (Below w.heap.size w wy) := hB
        by_cases hjl : j < l
        · obtain ⟨g, rfl, hgb, hgs, j0, j1, j2, j3⟩ := hO.cells j (by omega)
          have t0 := hO.thawed (j * 4)
          have t1 := hO.thawed (j * 4 + 1)
          have t2 := hO.thawed (j * 4 + 2)
          have t3 := hO.thawed (j * 4 + 3)
          have hg2 := GI.out g rfl
          have on := set4_only wy g j zr
          have OX : Hid (Ow (set4 wy g j zr) w.heap.size (some ⟨g, 0, none⟩) (xs.set j zr) ci) := hO.set4 j (by omega) zr
          have TG : Tu (fun k => k = g) wy (set4 wy g j zr) := Tu.ofOnly on rfl
          have KX : Hid (Ct (set4 wy g j zr) w2.heap.size b ab cb n l1) := hK.tu TG (fun e => by have := hK.bb; omega) (fun k hk e => by have := (hK.row.ge k hk).1; omega)
          have RX : Hid (Rt (set4 wy g j zr) mb mg n l1) := hR.tu TG (fun e => by have := GM.out.2; omega) (fun e => by have := GM.out.1; omega)
          have BX : Hid (Below w.heap.size w (set4 wy g j zr)) := hB.trans (TG.below (fun i e => by omega) hB.size)
          have e1 : (j : Int) < (l : Int) := by omega
          have e0 : (0 : Int) ≤ (j : Nat) := by omega
          have hxs : (xs.set j zr).length = l := by rw [List.length_set]; exact hxl
          clear hO hK hR hB on TG
          go_wp2
          go_roundw
          case rel => exact ⟨j + 1, xs.set j zr, by omega, by go_num, hxs, OX.out, KX.out, RX.out, BX.out⟩
          case measure => simp [intOf]; omega
        · obtain rfl : j = l := by omega
          have zy := hB.size
          have W9 : Hid (IsW wy a1 l1) := H1.out.keep hB
          clear hO hK hR hB
          go_wp2_with fail
          refine (same_cr w2.heap.size wy b ab cb mb mg n l1 ⟨HK.out, HR.out⟩).mono ?_
          rintro e w6 ⟨rfl, b6⟩
          have B6 : Hid (Below wy.heap.size wy w6) := b6
          clear b6
          go_wp2_with fail
          refine (rows_any w2.heap.size b ab cb n l1 _ (HK.out.keep B6.out)).mono ?_
          rw [EL.out]
          rintro e w7 ⟨a7, c7, rfl, o7, b7⟩
          have B7 : Hid (Below wy.heap.size wy w7) := B6.out.trans (b7.mono B6.out.size)
          have SM : Hid (Calls Try.prog 15 #[.slice a7 j c7, .slice a1 j cap1] w7 fun e w' => e = .returned (.bool true) ∧ ∃ m, w' = w7.drewN m) := by
            have q := same_true a7 a1 c7 cap1 l1 w7 o7.isW (W9.out.keep B7.out) (by rw [EL.out]; omega)
            rw [EL.out] at q
            exact q
          clear o7 b7
          go_wp2_with fail
          refine SM.out.mono ?_
          rintro e w8 ⟨rfl, m8, rfl⟩
          obtain ⟨w9, hw9⟩ : ∃ w9, w7.drewN m8 = w9 := ⟨_, rfl⟩
          have B9 : Hid (Below wy.heap.size wy w9) := by show Below _ _ _; rw [← hw9]; exact ⟨B7.out.os, B7.out.tape, B7.out.output, B7.out.size, B7.out.block⟩
          rw [hw9]
          clear hw9 SM
          go_wp2_with fail
          refine (rlive_any mb mg n l1 _ (HR.out.keep B9.out)).mono ?_
          rintro e w10 ⟨a10, c10, rfl, o10, b10⟩
          have B10 : Hid (Below wy.heap.size wy w10) := B9.out.trans (b10.mono B9.out.size)
          obtain ⟨V, hV⟩ : ∃ V, liveF 0 l1 = V := ⟨_, rfl⟩
          have hVl : V.length ≤ 4096 := by rw [← hV]; have q := liveF_len l1 0; have q2 := EL.out; omega
          have hVs : ∀ x ∈ V, x < 18446744073709551616 := fun x hx => by
            rw [← hV, mem_liveF] at hx
            obtain ⟨k, _, _, rfl⟩ := hx
            have := of_lt ((0 : Nat) + (k : Int) + 1) (l1[k].gen)
            omega
          rw [hV] at o10 ⊢
          obtain ⟨w11, hw11⟩ : ∃ w11, w10.alloc (.cells #[.slice a10 V.length c10] 31) = w11 := ⟨_, rfl⟩
          obtain ⟨pb, hpb⟩ : ∃ pb, w10.heap.size = pb := ⟨_, rfl⟩
          have T4 : Hid (Tw w w11 b ab cb mb mg n l1 l1 pb a10 c10 V) := by
            have b11 : Below w10.heap.size w10 w11 := by rw [← hw11]; exact (Below.refl _ w10).alloc (Nat.le_refl _) _
            have q11 : w11.heap[w10.heap.size]? = some (.cells #[.slice a10 V.length c10] 31 (0, 0)) := by rw [← hw11]; exact Go.heap_alloc_new w10 _
            have z9 := B9.out.size
            have z10 := B10.out.size
            have z11 := b11.size
            have BB : Below wy.heap.size wy w11 := B10.out.trans (b11.mono z10)
            have k11 := HK.out.keep BB
            refine ⟨⟨k11.box, k11.row.mono z2, k11.gd, Nat.le_trans z2 k11.bb⟩, HR.out.keep BB, ?_, (o10.mono (by omega)).keep b11, hVs, NE.out, by have := GM.out.1; omega, by omega, HB.out.trans (BB.mono zy)⟩
            rw [← hpb]; exact q11
          have HW11 : Hid (w10.alloc (.cells #[.slice a10 V.length c10] 31) = w11) := hw11
          have HPB : Hid (w10.heap.size = pb) := hpb
          clear hw11 hpb o10 b10 hV hVs
          go_wp2
          (try rw [HW11.out])
          (try rw [HPB.out])
          clear HW11 HPB HO HK HR HB W9 B6 B7 B9 B10
          go_loopw [13, 15] (fun ov iv wr => ∃ (i : Nat) (a : Option Addr) (c : Nat) (L : List Rw) (ah : Option Addr) (ch : Nat) (M : List Nat), i ≤ l2.length ∧ i ≤ 60 ∧ ov = .bool true ∧ iv = .int .i64 (i : Nat) ∧ M.length ≤ 4096 + i ∧ Tw w wr b a c mb mg n L L pb ah ch M) (fun _ iv _ => 60 - (intOf iv).toNat)
          case atStart => exact ⟨0, ab, cb, l1, a10, c10, V, Nat.zero_le _, Nat.zero_le _, rfl, rfl, by omega, T4.out⟩
          case round =>
            clear T4
            obtain ⟨i, a, c, L, ah, ch, M, hi, hi2, rfl, rfl, hMi, hT⟩ := hrel
            rename World => wr
            have HT : Hid (Tw w wr b a c mb mg n L L pb ah ch M) := hT
            clear hT
            by_cases hgo : i < l2.length ∧ i < 60
            · obtain ⟨hlt3, hlt4⟩ := hgo
              have e3 : (i : Int) < (l2.length : Int) := by omega
              have e4 : (i : Int) < 60 := by omega
              obtain ⟨sb, so, q, ea2, hq, hsb, hat, hok⟩ := H2.out.call i hlt3
              obtain ⟨s0, s1, s2, s3, s4⟩ := hat.keep hsb HT.out.bel
              have r1 := hok.h
              obtain ⟨qk, qn, qh, q2, qp⟩ := q
              simp only at s0 s1 s2 s3 s4 r1
              subst ea2
              clear hq hat hok
              go_wp2_with (go_at_call 12; refine (do_any w wr b a c mb mg n L pb ah ch M qk qn qh q2 qp HT.out r1 (by omega)).mono ?_; rintro e w15 ⟨rfl, a5, c5, L5, ah5, ch5, M5, t5, hM5⟩; have T5 : Hid (Tw w w15 b a5 c5 mb mg n L5 L5 pb ah5 ch5 M5) := t5; clear t5)
              go_roundw
              case rel => exact ⟨i + 1, a5, c5, L5, ah5, ch5, M5, by omega, by omega, rfl, by go_num, by omega, T5.out⟩
              case measure => simp [intOf]; omega
            · have hgo3 : (i = l2.length) ∨ (i < l2.length ∧ i = 60) := by omega
              rcases hgo3 with rfl | ⟨hlt3, rfl⟩
              · go_wp2_with (go_at_call 13; refine (same_tw w wr b a c mb mg n L pb ah ch M HT.out).mono ?_; rintro e w19 ⟨rfl, b19⟩; have B19 : Hid (Below w.heap.size w w19) := HT.out.bel.trans (b19.mono HT.out.bel.size); clear b19)
                go_ret
                exact ⟨rfl, B19.out⟩
              · have e3 : ((60 : Nat) : Int) < (l2.length : Int) := by omega
                go_wp2_with (go_at_call 13; refine (same_tw w wr b a c mb mg n L pb ah ch M HT.out).mono ?_; rintro e w19 ⟨rfl, b19⟩; have B19 : Hid (Below w.heap.size w w19) := HT.out.bel.trans (b19.mono HT.out.bel.size); clear b19)
                go_ret
                exact ⟨rfl, B19.out⟩
    · have NG : Hid (¬ Gd n l1) := hg
      by_cases hlen : n < l1.length
      · clear hg
        go_wp2_with (first
          | (go_at_call 14; refine (from_form n ai ci l1 _ O2.out.isW hn1 hn2 NG.out (by omega)).mono ?_; rintro e w3 ⟨rfl, b3⟩; have B3 : Hid (Below w2.heap.size w2 w3) := b3; clear b3)
          | (go_at_call 11; refine (rfrom_long n l1.length cap1 a1 _ hn1 hn2 hlen (by omega)).mono ?_; rintro e w4 ⟨rfl, rfl⟩)
          | (go_at_call 15; refine (same_true ai a1 ci cap1 l1 _ (O2.out.isW.keep B3.out) (W2.out.keep B3.out) (by omega)).mono ?_; rintro e w8 ⟨rfl, m8, rfl⟩))
        go_ret
        have BF := B2.out.trans (B3.out.mono z2)
        exact ⟨rfl, ⟨BF.os, BF.tape, BF.output, BF.size, BF.block⟩⟩
      · clear hg
        go_wp2_with (first
          | (go_at_call 14; refine (from_form n ai ci l1 _ O2.out.isW hn1 hn2 NG.out (by omega)).mono ?_; rintro e w3 ⟨rfl, b3⟩; have B3 : Hid (Below w2.heap.size w2 w3) := b3; clear b3)
          | (go_at_call 11; refine (rfrom_any n a1 cap1 l1 _ (W2.out.keep B3.out) hn1 hn2 (by omega)).mono ?_; rintro e w4 ⟨b4, q4⟩; (obtain rfl : e = .returned (.tuple #[.pointer none, .int .i64 4]) := (by rcases q4 with ⟨q, _⟩ | ⟨_, q⟩; exact absurd q NG.out; exact q)); have B4 : Hid (Below w2.heap.size w2 w4) := B3.out.trans (b4.mono B3.out.size); clear b4 q4)
          | (go_at_call 15; refine (same_true ai a1 ci cap1 l1 _ (O2.out.isW.keep B4.out) (W2.out.keep B4.out) (by omega)).mono ?_; rintro e w8 ⟨rfl, m8, rfl⟩))
        go_ret
        have BF := B2.out.trans (B4.out.mono z2)
        exact ⟨rfl, ⟨BF.os, BF.tape, BF.output, BF.size, BF.block⟩⟩
end Go.Proofs.Ytjdgildeilcfiaa
