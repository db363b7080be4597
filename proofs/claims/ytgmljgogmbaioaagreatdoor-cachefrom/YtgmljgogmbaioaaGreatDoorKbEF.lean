/- What a span tells behind its cache. -/
import Derived.Test.YtgmljgogmbaioaaGreatDoorKbD
namespace Go.Proofs.YtgmljgogmbaioaaGreatDoor
open Go.RowKit
set_option linter.unusedVariables false
set_option maxRecDepth 4000

theorem ktell1_any (L : Nat → Nat) (cb fb hb : Nat) (a : Option Addr) (cap : Nat) (ps : List Nat) (sh : List Value) (P W : Nat) (φ : Nat → Bool) (m : List Sg) (s : Sg) (p bb gg q1 q2 q3 i : Nat) (x : Int) (w : World) (h : Cm w L cb fb hb a cap ps sh P W φ m (Kof m)) (ho : Okc P W m) (hsp : SpanAt w p bb gg (s.pg : Int) (s.cl : Int) (s.bts : Int) s.f) (hrt : Rt (s.pg : Int) (s.cl : Int) (s.bts : Int)) (hc : s.cl ≤ 7) (hi : i < slN (s.cl : Int)) (hx : 256 * (s.pg : Int) + (i : Int) * szI (s.cl : Int) (s.bts : Int) = x)
    (c1 : w.cell? ⟨q1, 0, none⟩ = some (.pointer (some ⟨p, 0, none⟩))) (c2 : w.cell? ⟨q2, 0, none⟩ = some (.pointer (some ⟨cb, 0, none⟩))) (c3 : w.cell? ⟨q3, 1, none⟩ = some (.int .i64 (s.cl : Nat))) (r : Bool) (hr : keepsB W (Kof m) s.cl x = r) :
    Calls Tryz.prog 85 #[.int .i64 (i : Nat), .pointer (some ⟨q1, 0, none⟩), .pointer (some ⟨q2, 0, none⟩), .pointer (some ⟨q3, 0, none⟩)] w fun e w' => e = .returned (.bool r) ∧ w = w' := by
  have HC : Hid (Cm w L cb fb hb a cap ps sh P W φ m (Kof m)) := h
  have HO : Hid (Okc P W m) := ho
  have HS : Hid (SpanAt w p bb gg (s.pg : Int) (s.cl : Int) (s.bts : Int) s.f) := hsp
  have HRT : Hid (Rt (s.pg : Int) (s.cl : Int) (s.bts : Int)) := hrt
  have HI : Hid (i < slN (s.cl : Int)) := hi
  have HX : Hid (256 * (s.pg : Int) + (i : Int) * szI (s.cl : Int) (s.bts : Int) = x) := hx
  have HR : Hid (keepsB W (Kof m) s.cl x = r) := hr
  have HCL : Hid (s.cl ≤ 7) := hc
  clear h ho hsp hrt hi hx hr hc
  go_enter Tryz.func85, Tryz.ntmps85
  go_wp2_with (first
    | (go_at_call 86; refine (at_in p _ _ _ i _ HS.out.box HC.out.tab.1 HRT.out HI.out).mono ?_; rw [HX.out]; rintro e w2 ⟨rfl, rfl⟩)
    | (go_at_call 52; refine (kkeeps_any L cb fb hb a cap ps sh P W φ m (Kof m) s.cl x _ HC.out HO.out.w1 HCL.out (fun v _ _ => Kof_ok HO.out v s.cl) r HR.out).mono ?_; rintro e w2 ⟨rfl, rfl⟩))
  go_ret
  exact ⟨rfl, rfl⟩

theorem stayA_filt {α : Type} (p : α → Bool) (q : Nat → Bool) : ∀ (l : List α) (k : Nat), (∀ j (hj : j < l.length), q (k + j) = !p l[j]) → stayA q k l = l.filter p
  | [], _, _ => rfl
  | x :: l, k, h => by
    have h0 : q k = !p x := by have := h 0 (by simp); simpa using this
    rw [stayA, stayA_filt p q l (k + 1) (fun j hj => by have := h (j + 1) (by simp; omega); rw [show k + 1 + j = k + (j + 1) by omega]; simpa using this), List.filter_cons, h0]
    cases p x <;> rfl
theorem own_vat {w : World} {B : Nat} {a : Option Addr} {l : List Int} {cap : Nat} (h : OwnsI w B a l cap) : VAt w (fun k => B ≤ k) 3 a (l.map (Value.int .i64)) cap := by
  obtain ⟨h0, ⟨h1, h2⟩ | ⟨g, c', cur, h1, hg, h2, h3, h4, h5, h6⟩⟩ := h
  · obtain rfl : l = [] := List.eq_nil_of_length_eq_zero h2
    cases h1
    exact .inl ⟨rfl, rfl, rfl⟩
  · cases h1
    exact .inr ⟨g, cur, rfl, hg, h2, by rw [List.length_map]; exact h3, h4, by rw [h5, Nat.mul_one], by rw [List.length_map]; rw [Nat.mul_one] at h6; exact h6⟩
theorem vat_own {w : World} {B : Nat} {a : Option Addr} {l : List Int} {cap : Nat} (h : VAt w (fun k => B ≤ k) 3 a (l.map (Value.int .i64)) cap) : OwnsI w B a l cap := by
  rcases h with ⟨rfl, h1, rfl⟩ | ⟨g, cur, rfl, hg, h2, h3, h4, h5, h6⟩
  · have : l = [] := List.map_eq_nil_iff.1 h1
    subst this
    exact ownsI_none w B
  · rw [List.length_map] at h3 h6
    exact ⟨by simp, .inr ⟨g, cap, cur, rfl, hg, h2, h3, h4, by rw [Nat.mul_one]; exact h5, by rw [Nat.mul_one]; exact h6⟩⟩
theorem idxI_nil (a : Option Addr) (cap : Nat) (q1 q2 q3 : Nat) (w : World) : Calls Tryz.prog 112 #[.slice a 0 cap, .func (.func 85) #[] #[.pointer (some ⟨q1, 0, none⟩), .pointer (some ⟨q2, 0, none⟩), .pointer (some ⟨q3, 0, none⟩)]] w fun e w' => e = .returned (.int .i64 (-1)) ∧ w = w' := by
  go_enter Tryz.func112, Tryz.ntmps112
  go_wp2
  go_loopw [8] (fun iv wr => iv = .int .i64 0 ∧ w = wr) (fun _ _ => 0)
  case atStart => exact ⟨rfl, rfl⟩
  case round =>
    obtain ⟨rfl, rfl⟩ := hrel
    go_wp2
    go_ret
    exact ⟨rfl, rfl⟩
theorem delFI_nil (a : Option Addr) (cap : Nat) (q1 q2 q3 : Nat) (w : World) : Calls Tryz.prog 84 #[.slice a 0 cap, .func (.func 85) #[] #[.pointer (some ⟨q1, 0, none⟩), .pointer (some ⟨q2, 0, none⟩), .pointer (some ⟨q3, 0, none⟩)]] w fun e w' => e = .returned (.slice a 0 cap) ∧ w = w' := by
  go_enter Tryz.func84, Tryz.ntmps84
  go_wp2_with (go_at_call 112; refine (idxI_nil a cap q1 q2 q3 _).mono ?_; rintro e w2 ⟨rfl, rfl⟩)
  go_ret
  exact ⟨rfl, rfl⟩
/-- What is left of a span's slots. -/
def tellF (W : Nat) (m : List Sg) (s : Sg) (l : List Int) : List Int := l.filter (fun x => !keepsB W (Kof m) s.cl (256 * (s.pg : Int) + x * szI (s.cl : Int) (s.bts : Int)))
theorem tell_core (L : Nat → Nat) (cb fb hb : Nat) (a : Option Addr) (cap : Nat) (ps : List Nat) (sh : List Value) (P W : Nat) (φ : Nat → Bool) (m : List Sg) (s : Sg) (p bb gg q1 q2 q3 B c2 : Nat) (l : List Int) (a2 : Option Addr) (w wx : World) (h : Cm w L cb fb hb a cap ps sh P W φ m (Kof m)) (ho : Okc P W m) (hsp : SpanAt w p bb gg (s.pg : Int) (s.cl : Int) (s.bts : Int) s.f) (hrt : Rt (s.pg : Int) (s.cl : Int) (s.bts : Int)) (hc : s.cl ≤ 7)
    (hb' : Below w.heap.size w wx) (ho2 : OwnsI wx B a2 l c2) (hB : w.heap.size ≤ B) (hl : ∀ x ∈ l, ∃ i : Nat, x = i ∧ i < slN (s.cl : Int)) (hll : l.length ≤ 100000) (hne : ∀ g, ob a2 = some g → q1 ≠ g ∧ q2 ≠ g ∧ q3 ≠ g)
    (h1 : wx.cell? ⟨q1, 0, none⟩ = some (.pointer (some ⟨p, 0, none⟩))) (h2 : wx.cell? ⟨q2, 0, none⟩ = some (.pointer (some ⟨cb, 0, none⟩))) (h3 : wx.cell? ⟨q3, 1, none⟩ = some (.int .i64 (s.cl : Nat))) :
    Calls Tryz.prog 84 #[.slice a2 l.length c2, .func (.func 85) #[] #[.pointer (some ⟨q1, 0, none⟩), .pointer (some ⟨q2, 0, none⟩), .pointer (some ⟨q3, 0, none⟩)]] wx fun e w' => e = .returned (.slice a2 (tellF W m s l).length c2) ∧ OwnsI w' B a2 (tellF W m s l) c2 ∧ Tu (fun k => ob a2 = some k) wx w' := by
  have hv := own_vat ho2
  rcases hv with ⟨rfl, e, rfl⟩ | ⟨g, cur, rfl, hg, hr⟩
  · have : l = [] := List.map_eq_nil_iff.1 e
    subst this
    refine (delFI_nil none 0 q1 q2 q3 wx).mono ?_
    rintro e w' ⟨rfl, rfl⟩
    exact ⟨rfl, ownsI_none _ _, Tu.refl _ _⟩
  · obtain ⟨n1, n2, n3⟩ := hne g rfl
    have k1 := World.block_lt_of_cell? wx _ h1
    have k2 := World.block_lt_of_cell? wx _ h2
    have k3 := World.block_lt_of_cell? wx _ h3
    refine (delFI_any (fun k => B ≤ k) g c2 l.length q1 q2 q3 (l.map (Value.int .i64)) (fun k => if hk : k < l.length then keepsB W (Kof m) s.cl (256 * (s.pg : Int) + l[k] * szI (s.cl : Int) (s.bts : Int)) else false) (fun _ wr => Tu (fun k => k = g) wx wr) wx (.inr ⟨g, cur, rfl, hg, hr⟩) (by rw [List.length_map]) hll (fun v hv => by obtain ⟨x, _, rfl⟩ := List.mem_map.1 hv; exact ⟨_, rfl⟩) (Tu.refl _ _) (fun k wr hk hJ => ?_) (fun k wr w' hJ on => hJ.only on rfl)).mono ?_
    · have hk' : k < l.length := by rw [List.length_map] at hk; exact hk
      rw [List.getElem_map, dif_pos hk']
      obtain ⟨i, ei, hi⟩ := hl _ (List.getElem_mem hk')
      rw [ei]
      have bw : Below w.heap.size w wr := hb'.trans (hJ.below (fun i e => by rw [e]; exact Nat.le_trans hB hg) hb'.size)
      refine (ktell1_any L cb fb hb a cap ps sh P W φ m s p bb gg q1 q2 q3 i _ wr (h.keep (Ext.refl _ _) bw) ho (hsp.keep bw) hrt hc hi rfl (by rw [hJ.cell n1 k1]; exact h1) (by rw [hJ.cell n2 k2]; exact h2) (by rw [hJ.cell n3 k3]; exact h3) _ rfl).mono ?_
      rintro e w' ⟨rfl, rfl⟩
      exact ⟨rfl, hJ, rfl⟩
    · rintro e w' ⟨n', rfl, hn, v, hJ⟩
      rw [stayA_map, stayA_filt (fun x => !keepsB W (Kof m) s.cl (256 * (s.pg : Int) + x * szI (s.cl : Int) (s.bts : Int))) _ l 0 (fun j hj => by rw [Nat.zero_add, dif_pos hj, Bool.not_not])] at hn v
      rw [List.length_map] at hn
      refine ⟨by rw [← hn]; rfl, vat_own v, hJ.mono (fun i _ e => by rw [e]; rfl)⟩
theorem slN_few : ∀ c : Nat, c < 8 → slN (c : Int) ≤ 100000 := by decide
theorem own_on {w w' : World} {B q : Nat} {a : Option Addr} {l : List Int} {cap : Nat} (h : OwnsI w B a l cap) (on : Only q w w') (hne : ∀ g, ob a = some g → g ≠ q) : OwnsI w' B a l cap := by
  obtain ⟨h0, h1 | ⟨g, c', cur, h1, hg, h2, h3⟩⟩ := h
  · exact ⟨h0, .inl h1⟩
  · have := hne g (by cases h1; rfl)
    exact ⟨h0, .inr ⟨g, c', cur, h1, hg, by rw [on.block g this]; exact h2, h3⟩⟩
theorem three_rows (w : World) (x y z : Obj) : (((w.alloc x).alloc y).alloc z).heap[w.heap.size]? = some x ∧ (((w.alloc x).alloc y).alloc z).heap[w.heap.size + 1]? = some y ∧ (((w.alloc x).alloc y).alloc z).heap[w.heap.size + 1 + 1]? = some z := by
  have hx := Go.heap_alloc_new w x
  have hy := Go.heap_alloc_new (w.alloc x) y
  have hz := Go.heap_alloc_new ((w.alloc x).alloc y) z
  have s1 : (w.alloc x).heap.size = w.heap.size + 1 := by simp
  have s2 : ((w.alloc x).alloc y).heap.size = w.heap.size + 1 + 1 := by simp
  rw [s1] at hy
  rw [s2] at hz
  have b1 := (Below.refl _ (w.alloc x)).alloc (Nat.le_refl _) y
  have b2 := (Below.refl _ ((w.alloc x).alloc y)).alloc (Nat.le_refl _) z
  exact ⟨by rw [b2.block _ (by omega), b1.block _ (by omega)]; exact hx, by rw [b2.block _ (by omega)]; exact hy, hz⟩
theorem ktell_any (L : Nat → Nat) (cb fb hb : Nat) (a : Option Addr) (cap : Nat) (PSL : List Nat) (sh : List Value) (P W : Nat) (φ : Nat → Bool) (m : List Sg) (s : Sg) (p bb gg : Nat) (w : World) (h : Cm w L cb fb hb a cap PSL sh P W φ m (Kof m)) (ho : Okc P W m) (hsp : SpanAt w p bb gg (s.pg : Int) (s.cl : Int) (s.bts : Int) s.f) (hrt : Rt (s.pg : Int) (s.cl : Int) (s.bts : Int)) (hc : s.cl ≤ 7) (l' : List Int) (hl' : tellF W m s (lsL s.f (slN (s.cl : Int))) = l') :
    Calls Tryz.prog 48 #[.pointer (some ⟨cb, 0, none⟩), .pointer (some ⟨p, 0, none⟩)] w fun e w' => ∃ a' cap', e = .returned (.agg #[.int .i64 (s.pg : Nat), .int .i64 (s.cl : Nat), .int .i64 (s.bts : Nat), .slice a' l'.length cap']) ∧ OwnsI w' w.heap.size a' l' cap' ∧ Below w.heap.size w w' := by
  obtain ⟨D, hD⟩ : ∃ D, (((w.alloc (.cells #[.pointer (some ⟨cb, 0, none⟩)] 26)).alloc (.cells #[.pointer (some ⟨p, 0, none⟩)] 92)).alloc (.cells #[.int .i64 0, .int .i64 0, .int .i64 0, .slice none 0 0] 48)) = D := ⟨_, rfl⟩
  have HD : Hid ((((w.alloc (.cells #[.pointer (some ⟨cb, 0, none⟩)] 26)).alloc (.cells #[.pointer (some ⟨p, 0, none⟩)] 92)).alloc (.cells #[.int .i64 0, .int .i64 0, .int .i64 0, .slice none 0 0] 48)) = D) := hD
  have bD : Below w.heap.size w D := by rw [← hD]; exact (((Below.refl _ w).alloc (Nat.le_refl _) _).alloc (by simp) _).alloc (by simp; omega) _
  have zD : D.heap.size = w.heap.size + 3 := by rw [← hD]; simp
  have SD : Hid (SpanAt D p bb gg (s.pg : Int) (s.cl : Int) (s.bts : Int) s.f) := hsp.keep bD
  have BD : Hid (Below w.heap.size w D) := bD
  have HC : Hid (Cm w L cb fb hb a cap PSL sh P W φ m (Kof m)) := h
  have TD : Hid (TabB D) := (h.keep (Ext.refl _ _) bD).tab.2
  obtain ⟨l, hl⟩ : ∃ l, lsL s.f (slN (s.cl : Int)) = l := ⟨_, rfl⟩
  have HL : Hid (lsL s.f (slN (s.cl : Int)) = l) := hl
  obtain ⟨r1, r2, r3⟩ := three_rows w (.cells #[.pointer (some ⟨cb, 0, none⟩)] 26) (.cells #[.pointer (some ⟨p, 0, none⟩)] 92) (.cells #[.int .i64 0, .int .i64 0, .int .i64 0, .slice none 0 0] 48)
  rw [hD] at r1 r2 r3
  have R1 : Hid (D.heap[w.heap.size]? = some (.cells #[.pointer (some ⟨cb, 0, none⟩)] 26 (0, 0))) := r1
  have R2 : Hid (D.heap[w.heap.size + 1]? = some (.cells #[.pointer (some ⟨p, 0, none⟩)] 92 (0, 0))) := r2
  have R3 : Hid (D.heap[w.heap.size + 1 + 1]? = some (.cells (dcells 0 0 0 none 0 0) 48 (0, 0))) := r3
  have HSP : Hid (SpanAt w p bb gg (s.pg : Int) (s.cl : Int) (s.bts : Int) s.f) := hsp
  have HO : Hid (Okc P W m) := ho
  have HRT : Hid (Rt (s.pg : Int) (s.cl : Int) (s.bts : Int)) := hrt
  have HCL : Hid (s.cl ≤ 7) := hc
  have HL' : Hid (tellF W m s l = l') := by rw [← hl]; exact hl'
  have HM : Hid (∀ x ∈ l, ∃ i : Nat, x = i ∧ i < slN (s.cl : Int)) := fun x hx => by rw [← hl] at hx; obtain ⟨i, e, hi, _⟩ := lsL_mem _ _ _ hx; exact ⟨i, e, hi⟩
  have HLL : Hid (l.length ≤ 100000) := by show _ ≤ _; rw [← hl, lsL_len]; have := cnt_le s.f (slN (s.cl : Int)); have := slN_few s.cl (Nat.lt_succ_of_le hc); omega
  have ZD : Hid (D.heap.size = w.heap.size + 3) := zD
  have HWX : Hid (∀ (w2 : World) (a2 : Option Addr) (c2 : Nat), OwnsI w2 D.heap.size a2 l c2 → Below D.heap.size D w2 → Calls Tryz.prog 84 #[.slice a2 l.length c2, .func (.func 85) #[] #[.pointer (some ⟨w.heap.size + 1, 0, none⟩), .pointer (some ⟨w.heap.size, 0, none⟩), .pointer (some ⟨w2.heap.size, 0, none⟩)]] (w2.alloc (.cells (dcells (s.pg : Int) (s.cl : Int) (s.bts : Int) a2 l.length c2) 48)) fun e w3 => ∃ n' : Nat, e = .returned (.slice a2 n' c2) ∧ l'.length = n' ∧ OwnsI w3 D.heap.size a2 l' c2 ∧ w3.heap[w2.heap.size]? = some (.cells (dcells (s.pg : Int) (s.cl : Int) (s.bts : Int) a2 l.length c2) 48 (0, 0)) ∧ w3.heap[w.heap.size + 1 + 1]? = some (.cells (dcells 0 0 0 none 0 0) 48 (0, 0)) ∧ Below w.heap.size w w3 ∧ (∀ g, ob a2 = some g → D.heap.size ≤ g ∧ g ≠ w2.heap.size)) := fun w2 a2 c2 o2 b2 => by
    obtain ⟨_, _, _, pt⟩ := o2.parts
    have ps : ∀ g, ob a2 = some g → D.heap.size ≤ g ∧ g < w2.heap.size := fun g hg => by
      cases a2 with
      | none => cases hg
      | some ad => have := pt ad rfl; cases hg; exact ⟨this.1, this.2.1⟩
    obtain ⟨wx, hwx⟩ : ∃ wx, w2.alloc (.cells (dcells (s.pg : Int) (s.cl : Int) (s.bts : Int) a2 l.length c2) 48) = wx := ⟨_, rfl⟩
    have bx : Below w2.heap.size w2 wx := by rw [← hwx]; exact (Below.refl _ w2).alloc (Nat.le_refl _) _
    have rx : wx.heap[w2.heap.size]? = some (.cells (dcells (s.pg : Int) (s.cl : Int) (s.bts : Int) a2 l.length c2) 48 (0, 0)) := by rw [← hwx]; exact Go.heap_alloc_new w2 _
    have z2 := b2.size
    have zD := ZD.out
    have bwx : Below w.heap.size w wx := bD.trans ((b2.mono (by omega)).trans (bx.mono (by omega)))
    have y1 := bblock bx (bblock b2 r1)
    have y2 := bblock bx (bblock b2 r2)
    have y3 := bblock bx (bblock b2 r3)
    rw [hwx]
    refine (tell_core L cb fb hb a cap PSL sh P W φ m s p bb gg (w.heap.size + 1) w.heap.size w2.heap.size D.heap.size c2 l a2 w wx h ho hsp hrt hc bwx (o2.keep bx) (by omega) HM.out HLL.out (fun g hg => by have := ps g hg; omega) (cell_of_row _ _ 0 _ _ _ y2) (cell_of_row _ _ 0 _ _ _ y1) (cell_of_row _ _ 1 _ _ _ rx)).mono ?_
    rintro e w3 ⟨rfl, o3, t3⟩
    rw [HL'.out] at o3 ⊢
    refine ⟨_, rfl, rfl, o3, t3.block _ _ rx (fun e => by have := ps _ e; omega), t3.block _ _ y3 (fun e => by have := ps _ e; omega), bwx.trans (t3.below (fun i e => by have := ps i e; omega) bwx.size), fun g hg => by have := ps g hg; omega⟩
  clear hD bD h hsp hl hl' hrt ho hc r1 r2 r3
  go_enter Tryz.func48, Tryz.ntmps48
  go_wp2_with fail
  rw [HD.out]
  go_wp2_with (first | (have b3 := B2; go_at_call 84; refine (HWX.out w2 a2 c2 O2.out B2.out).mono ?_; rintro e w3 ⟨n', rfl, hn, o3, x1, x2, b4, hg⟩; obtain ⟨u0, u1, u2, u3⟩ : w3.cell? ⟨w2.heap.size, 0, none⟩ = some (.int .i64 (s.pg : Int)) ∧ w3.cell? ⟨w2.heap.size, 1, none⟩ = some (.int .i64 (s.cl : Int)) ∧ w3.cell? ⟨w2.heap.size, 2, none⟩ = some (.int .i64 (s.bts : Int)) ∧ w3.cell? ⟨w2.heap.size, 3, none⟩ = some (.slice a2 l.length c2) := ⟨cell_of_row _ _ 0 _ _ _ x1, cell_of_row _ _ 1 _ _ _ x1, cell_of_row _ _ 2 _ _ _ x1, cell_of_row _ _ 3 _ _ _ x1⟩; have X1 : Hid (w3.heap[w2.heap.size]? = some (.cells (dcells (s.pg : Int) (s.cl : Int) (s.bts : Int) a2 l.length c2) 48 (0, 0))) := x1; have X2 : Hid (w3.heap[w.heap.size + 1 + 1]? = some (.cells (dcells 0 0 0 none 0 0) 48 (0, 0))) := x2; have O3 : Hid (OwnsI w3 D.heap.size a2 l' c2) := o3; have B4 : Hid (Below w.heap.size w w3) := b4; have HG : Hid (∀ g, ob a2 = some g → D.heap.size ≤ g ∧ g ≠ w2.heap.size) := hg; have HN : Hid (l'.length = n') := hn; have y3 : w3.frozen? ⟨w2.heap.size, 3, none⟩ = false := (frozen_of_row _ _ 3 _ _ x1); obtain ⟨v0, v1, v2, v3⟩ : w3.cell? ⟨w.heap.size + 1 + 1, 0, none⟩ = some (.int .i64 0) ∧ w3.cell? ⟨w.heap.size + 1 + 1, 1, none⟩ = some (.int .i64 0) ∧ w3.cell? ⟨w.heap.size + 1 + 1, 2, none⟩ = some (.int .i64 0) ∧ w3.cell? ⟨w.heap.size + 1 + 1, 3, none⟩ = some (.slice none 0 0) := ⟨cell_of_row _ _ 0 _ _ _ x2, cell_of_row _ _ 1 _ _ _ x2, cell_of_row _ _ 2 _ _ _ x2, cell_of_row _ _ 3 _ _ _ x2⟩; have f0 : w3.frozen? ⟨w.heap.size + 1 + 1, 0, none⟩ = false := (frozen_of_row _ _ 0 _ _ x2); have f1 : w3.frozen? ⟨w.heap.size + 1 + 1, 1, none⟩ = false := (frozen_of_row _ _ 1 _ _ x2); have f2 : w3.frozen? ⟨w.heap.size + 1 + 1, 2, none⟩ = false := (frozen_of_row _ _ 2 _ _ x2); have f3 : w3.frozen? ⟨w.heap.size + 1 + 1, 3, none⟩ = false := (frozen_of_row _ _ 3 _ _ x2); have nq : w.heap.size + 1 + 1 ≠ w2.heap.size := (by have z2 := B2.out.size; have zz := ZD.out; omega); clear o3 x1 x2 b4 hg hn) | (go_at_call 83; refine (data_any p bb gg _ _ _ s.f _ SD.out TD.out l HL.out).mono ?_; rintro e w2 ⟨a2, c2, rfl, o2, b2⟩; have O2 : Hid (OwnsI w2 D.heap.size a2 l c2) := o2; have B2 : Hid (Below D.heap.size D w2) := b2; clear o2 b2))
  have X3 : Hid ((w3.setCell ⟨w2.heap.size, 3, none⟩ (.slice a2 n' c2)).heap[w.heap.size + 1 + 1]? = some (.cells (dcells 0 0 0 none 0 0) 48 (0, 0))) := by
    show _ = _
    rw [(Only.set w2.heap.size 3 _ w3).block _ nq]; exact X2.out
  obtain ⟨e0, e1, e2, e3⟩ := lay4_cells (p := (s.pg : Int)) (c := (s.cl : Int)) (s := (s.bts : Int)) (v := .slice a2 n' c2) X3.out
  have O4 : Hid (OwnsI (lay4 (w3.setCell ⟨w2.heap.size, 3, none⟩ (.slice a2 n' c2)) (w.heap.size + 1 + 1) (s.pg : Int) (s.cl : Int) (s.bts : Int) (.slice a2 n' c2)) w.heap.size a2 l' c2) := (lay4_ownsI (own_on O3.out (Only.set w2.heap.size 3 _ w3) (fun g hg => (HG.out g hg).2)) (by have := ZD.out; omega)).mono (by have := ZD.out; omega)
  have B5 : Hid (Below w.heap.size w (lay4 (w3.setCell ⟨w2.heap.size, 3, none⟩ (.slice a2 n' c2)) (w.heap.size + 1 + 1) (s.pg : Int) (s.cl : Int) (s.bts : Int) (.slice a2 n' c2))) := lay4_below (B4.out.setCell (by have z2 := B2.out.size; have zz := ZD.out; show w.heap.size ≤ w2.heap.size; omega) _) (by omega)
  unfold lay4 at e0 e1 e2 e3
  refine bodyPost_ret (v := .agg #[.int .i64 (s.pg : Int), .int .i64 (s.cl : Int), .int .i64 (s.bts : Int), .slice a2 n' c2]) (by simp [results, Tryz.results48, go_sem, e0, e1, e2, e3]) rfl ⟨a2, c2, by rw [HN.out], O4.out, B5.out⟩
end Go.Proofs.YtgmljgogmbaioaaGreatDoor

/- What all spans tell. -/
namespace Go.Proofs.YtgmljgogmbaioaaGreatDoor
open Go.RowKit
set_option linter.unusedVariables false
set_option maxRecDepth 4000

/-- A span that is told. -/
structure Td where
  (p c s : Int) (l : List Int)
/-- Its row. -/
structure Rw extends Td where
  (a : Option Addr) (k : Nat)
def Rw.cs (r : Rw) : List Value := [.int .i64 r.p, .int .i64 r.c, .int .i64 r.s, .slice r.a r.l.length r.k]
/-- Spans that are told: rows of one's own, and each one's numbers. -/
def Told (w : World) (B : Nat) (v : Value) (ts : List Td) : Prop := ∃ rs : List Rw, rs.map Rw.toTd = ts ∧ w.ownsRow B 48 4 v ts.length (rs.flatMap Rw.cs) ∧ ∀ r ∈ rs, OwnsI w B r.a r.l r.k
theorem Told.nil (w : World) (B : Nat) : Told w B (.slice none 0 0) [] := ⟨[], rfl, World.ownsRow_nil _ _ _ _, fun r h => by cases h⟩
theorem ownsRow_keepB {w w' : World} {B : Nat} {e : TypeId} {size : Nat} {v : Value} {n : Nat} {xs : List Value} (h : w.ownsRow B e size v n xs) (hb : Below w.heap.size w w') : w'.ownsRow B e size v n xs := by
  obtain ⟨h0, h1 | ⟨g, c', cur, h1, hg, h2, h3⟩⟩ := h
  · exact ⟨h0, .inl h1⟩
  · exact ⟨h0, .inr ⟨g, c', cur, h1, hg, by rw [hb.block g (Array.getElem?_eq_some_iff.1 h2).1]; exact h2, h3⟩⟩
theorem Told.keep {w w' : World} {B : Nat} {v : Value} {ts : List Td} (h : Told w B v ts) (hb : Below w.heap.size w w') : Told w' B v ts := by
  obtain ⟨rs, h1, h2, h3⟩ := h
  exact ⟨rs, h1, ownsRow_keepB h2 hb, fun r hr => (h3 r hr).keep hb⟩
theorem ownsRow_geB {w : World} {B : Nat} {e : TypeId} {size : Nat} {v : Value} {n : Nat} {xs : List Value} (h : w.ownsRow B e size v n xs) : ∀ j, v.ownBlock = some j → B ≤ j := by
  intro j hj
  obtain ⟨_, ⟨h1, h2⟩ | ⟨g, c', cur, h1, hg, h2, _⟩⟩ := h
  · rw [h1] at hj; simp [Value.ownBlock] at hj
  · rw [h1] at hj
    simp [Value.ownBlock] at hj
    omega
theorem own_grown {w w' : World} {B : Nat} {v : Value} {n : Nat} {xs : List Value} {a : Option Addr} {l : List Int} {cap : Nat} (h : OwnsI w B a l cap) (hr : w.ownsRow B 48 4 v n xs) (hg : w.grownBy w' v.ownBlock) : OwnsI w' B a l cap := by
  obtain ⟨h0, h1 | ⟨g, c', cur, h1, hb, h2, h3⟩⟩ := h
  · exact ⟨h0, .inl h1⟩
  · refine ⟨h0, .inr ⟨g, c', cur, h1, hb, ?_, h3⟩⟩
    rw [hg.block g (Array.getElem?_eq_some_iff.1 h2).1 (fun e => ?_)]
    · exact h2
    · obtain ⟨_, ⟨k1, _⟩ | ⟨g', _, cur', k1, _, k2, _⟩⟩ := hr
      · rw [k1] at e; cases e
      · rw [k1] at e
        have : g = g' := by simpa [Value.ownBlock] using e
        subst this
        rw [h2] at k2
        simp at k2
theorem Told.form {w : World} {B : Nat} {v : Value} {ts : List Td} (h : Told w B v ts) : ∃ a c, v = .slice a ts.length c := by
  obtain ⟨rs, _, ⟨_, ⟨k1, k2⟩ | ⟨g, c, cur, k1, _⟩⟩, _⟩ := h
  · exact ⟨none, 0, by rw [k1, k2]⟩
  · exact ⟨_, _, k1⟩
theorem Tryz.infoSpan : (Tryz.prog.info? 48).map (fun i => (i.zero, i.size, i.bytes)) = some (some (.agg #[.int .i64 0, .int .i64 0, .int .i64 0, .slice none 0 0]), 4, 48) := by kernel_rfl
theorem Tryz.undSpans : Tryz.prog.underlying 41 = some (.slice 48) := by kernel_rfl
theorem wpList_told {ops : Array Oper} {rest : List Oper} {o : Oper} {a : Act} {Q : Exit → Act → World → Prop} {w : World} (hgd : o.guard = none) (s x : Operand)
    (ho : o.op = .call { callee := .builtin .append, args := #[s, x], argTypes := #[41, 41] })
    (B : Nat) (hB : B ≤ w.heap.size) (as0 : Option Addr) (n0 cs : Nat) (ts : List Td) (hs : a.eval s = .slice as0 n0 cs) (hn0 : ts.length = n0) (hown : Told w B (.slice as0 n0 cs) ts)
    (g c : Nat) (r : Rw) (n : Nat) (hn : r.l.length = n) (hx : a.eval x = .slice (some ⟨g, 0, none⟩) 1 c) (hg : w.heap[g]? = some (.cells (dcells r.p r.c r.s r.a n r.k) 48 (0, 0))) (hr : OwnsI w B r.a r.l r.k) (hlen : ts.length ≤ 100000)
    (h : ∀ a' c' w', Told w' B (.slice a' (n0 + 1) c') (ts ++ [r.toTd]) → Below B w w' → wpList Tryz.prog ops Q rest (a.put o.dst (.slice a' (n0 + 1) c')) w') :
    wpList Tryz.prog ops Q (o :: rest) a w := by
  subst hn
  subst hn0
  obtain ⟨i0, hi, hz0, hz1, hz2⟩ := info_parts Tryz.infoSpan
  obtain ⟨rs, e1, e2, e3⟩ := hown
  refine wpList_append_own w hgd s x 41 ho B 48 i0 _ 4 48 Tryz.undSpans hi hz0 hz1 hz2 rfl (by decide) _ _ _ hs e2 ⟨g, 0, none⟩ 1 c r.cs hx rfl ?_ ?_ (by unfold maxLen; omega) (by omega) hB ?_
  · intro j u hj
    rw [show (⟨g, 0, none⟩ : Addr).add j = ⟨g, j, none⟩ by simp [Addr.add]; exact fun h => h.symm, cell_of_row w g j _ _ _ hg]
    show (r.cs.toArray)[j]? = some u
    rw [List.getElem?_toArray]; exact hj
  · intro u hu
    simp [Rw.cs] at hu
    rcases hu with rfl | rfl | rfl | rfl <;> rfl
  · intro v' w' h1 h2 h3
    have T : Told w' B v' (ts ++ [r.toTd]) := by
      refine ⟨rs ++ [r], by rw [List.map_append, e1]; rfl, ?_, fun q hq => ?_⟩
      · rw [List.flatMap_append, List.length_append]
        simpa using h1
      · rcases List.mem_append.1 hq with k | k
        · exact own_grown (e3 q k) e2 h2
        · obtain rfl : q = r := by simpa using k
          exact own_grown hr e2 h2
    obtain ⟨a', c', e⟩ := T.form
    subst e
    rw [List.length_append] at T ⊢
    exact h a' c' w' T ((Below.refl _ w).grown h2 hB (ownsRow_geB e2))
/-- What a span of a cache tells. -/
def tellT (W : Nat) (m : List Sg) (s : Sg) : Td := ⟨(s.pg : Int), (s.cl : Int), (s.bts : Int), tellF W m s (lsL s.f (slN (s.cl : Int)))⟩
def lenW : Value → Nat
  | .int _ i => i.toNat
  | _ => 0
set_option maxHeartbeats 1000000 in
theorem kspans_any (L : Nat → Nat) (cb P W : Nat) (m : List Sg) (w : World) (h : Ca w L cb P W m) (ho : Okc P W m) :
    Calls Tryz.prog 20 #[.pointer (some ⟨cb, 0, none⟩)] w fun e w' => ∃ v, e = .returned v ∧ Told w' w.heap.size v (m.map (tellT W m)) ∧ Below w.heap.size w w' := by
  obtain ⟨fb, hb, a, cap, ps, sh, hC⟩ := h
  have HO : Hid (Okc P W m) := ho
  have HC : Hid (Cm w L cb fb hb a cap ps sh P W (pgF m) m (Kof m)) := hC
  have c1 := hC.cell1
  have hP := ho.p1
  have hml := ho.fit.len
  obtain ⟨n, hn⟩ : ∃ n, m.length = n := ⟨_, rfl⟩
  have HN : Hid (m.length = n) := hn
  rw [hn] at c1 hml
  clear hC ho hn
  go_enter Tryz.func20, Tryz.ntmps20
  go_wp2_with fail
  go_loopw [3, 13] (fun lv iv wr => ∃ (k : Nat) (av : Option Addr) (cv : Nat), k ≤ n ∧ iv = .int .i64 (k : Nat) ∧ lv = .slice av k cv ∧ Told wr w.heap.size (.slice av k cv) ((m.take k).map (tellT W m)) ∧ Below w.heap.size w wr) (fun _ iv _ => n - lenW iv)
  case atStart => exact ⟨0, none, 0, Nat.zero_le _, rfl, rfl, Told.nil _ _, Below.refl _ _⟩
  case round =>
    obtain ⟨k, av, cv, hk, rfl, rfl, ht, hb⟩ := hrel
    have HT : Hid (Told _ w.heap.size _ ((m.take k).map (tellT W m))) := ht
    have HB : Hid (Below w.heap.size w _) := hb
    clear ht hb
    rcases Nat.lt_or_eq_of_le hk with hkn | rfl
    · have C0 := HC.out.keep (Ext.refl _ _) HB.out
      have hkm : k < m.length := by rw [HN.out]; exact hkn
      obtain ⟨g, p, rfl, hg3, hgl, cg, hp, hsp⟩ := C0.at k hkm
      have C1 : Hid (Cm _ L cb fb hb (some ⟨g, 0, none⟩) cap ps sh P W (pgF m) m (Kof m)) := C0
      obtain ⟨bb, gg, hat, _⟩ := hsp
      have RT := Sg.Ok.rt HO.out.fit HO.out.p1 (List.getElem_mem hkm)
      have ET : (m.take k).map (tellT W m) ++ [tellT W m m[k]] = (m.take (k + 1)).map (tellT W m) := by rw [List.take_add_one, List.map_append, List.getElem?_eq_getElem hkm]; rfl
      obtain ⟨s, hs⟩ : ∃ s, m[k] = s := ⟨_, rfl⟩
      rw [hs] at hat RT ET
      have HAT : Hid (SpanAt _ p bb gg (s.pg : Int) (s.cl : Int) (s.bts : Int) s.f) := hat
      have HRT : Hid (Rt (s.pg : Int) (s.cl : Int) (s.bts : Int)) := RT
      have HCL : Hid (s.cl ≤ 7) := by have := RT.c7; show _ ≤ _; omega
      obtain ⟨l', hl'⟩ : ∃ l', tellF W m s (lsL s.f (slN (s.cl : Int))) = l' := ⟨_, rfl⟩
      have HL' : Hid (tellF W m s (lsL s.f (slN (s.cl : Int))) = l') := hl'
      have HET : Hid ((m.take k).map (tellT W m) ++ [⟨(s.pg : Int), (s.cl : Int), (s.bts : Int), l'⟩] = (m.take (k + 1)).map (tellT W m)) := by rw [← hl']; exact ET
      have HLN : Hid (((m.take k).map (tellT W m)).length ≤ 100000) := by show _ ≤ _; rw [List.length_map, List.length_take]; omega
      have HKL : Hid (((m.take k).map (tellT W m)).length = k) := by show _ = _; rw [List.length_map, List.length_take]; omega
      have hi0 : (0 : Int) ≤ (k : Int) := by omega
      have hii : (k : Int) < (n : Int) := by omega
      clear C0 hat RT ET hs hl' hp hg3
      go_wp2_with (first
        | (have b4 := b3; at_builtin; refine wpList_told rfl _ _ rfl w.heap.size (by with_reducible exact SZ.out) av k cv ((m.take k).map (tellT W m)) rfl HKL.out (by with_reducible exact TT.out) _ 1 ⟨⟨(s.pg : Int), (s.cl : Int), (s.bts : Int), l'⟩, a', c'⟩ l'.length rfl rfl (by with_reducible exact RR.out) (by with_reducible exact OO.out) HLN.out ?_; intro a4 c4 w4 t4 b4; have T4 : Hid (Told w4 w.heap.size (.slice a4 (k + 1) c4) ((m.take (k + 1)).map (tellT W m))) := (by rw [← HET.out]; exact t4); have B4 : Hid (Below w.heap.size w w4) := BB.out.trans b4; clear t4 b4)
        | (go_at_call 48; refine (ktell_any L cb fb hb (some ⟨g, 0, none⟩) cap ps sh P W (pgF m) m s p bb gg _ C1.out HO.out HAT.out HRT.out HCL.out l' HL'.out).mono ?_; rintro e w3 ⟨a', c', rfl, o3, b3⟩; have T3 : Hid (Told w3 w.heap.size _ ((m.take k).map (tellT W m))) := HT.out.keep b3; have TT : Hid (Told (w3.alloc (.cells #[.int .i64 (s.pg : Int), .int .i64 (s.cl : Int), .int .i64 (s.bts : Int), .slice a' l'.length c'] 48)) w.heap.size _ ((m.take k).map (tellT W m))) := T3.out.keep ((Below.refl _ w3).alloc (Nat.le_refl _) _); have z3 : w.heap.size ≤ w3.heap.size := Nat.le_trans HB.out.size b3.size; have BB : Hid (Below w.heap.size w (w3.alloc (.cells #[.int .i64 (s.pg : Int), .int .i64 (s.cl : Int), .int .i64 (s.bts : Int), .slice a' l'.length c'] 48))) := (HB.out.trans (b3.mono HB.out.size)).alloc z3 _; have SZ : Hid (w.heap.size ≤ (w3.alloc (.cells #[.int .i64 (s.pg : Int), .int .i64 (s.cl : Int), .int .i64 (s.bts : Int), .slice a' l'.length c'] 48)).heap.size) := BB.out.size; have RR : Hid ((w3.alloc (.cells #[.int .i64 (s.pg : Int), .int .i64 (s.cl : Int), .int .i64 (s.bts : Int), .slice a' l'.length c'] 48)).heap[w3.heap.size]? = some (.cells (dcells (s.pg : Int) (s.cl : Int) (s.bts : Int) a' l'.length c') 48 (0, 0))) := Go.heap_alloc_new w3 _; have OO : Hid (OwnsI (w3.alloc (.cells #[.int .i64 (s.pg : Int), .int .i64 (s.cl : Int), .int .i64 (s.bts : Int), .slice a' l'.length c'] 48)) w.heap.size a' l' c') := ((o3.mono HB.out.size).keep ((Below.refl _ w3).alloc (Nat.le_refl _) _)); clear o3 z3))
      go_roundw
      case rel => exact ⟨k + 1, a4, c4, by omega, by congr 1, rfl, T4.out, B4.out⟩
      case measure => simp [lenW]; omega
    · go_wp2
      go_ret
      refine ⟨_, rfl, ?_, HB.out⟩
      have := HT.out
      rw [List.take_of_length_le (Nat.le_of_eq HN.out)] at this
      exact this
end Go.Proofs.YtgmljgogmbaioaaGreatDoor
