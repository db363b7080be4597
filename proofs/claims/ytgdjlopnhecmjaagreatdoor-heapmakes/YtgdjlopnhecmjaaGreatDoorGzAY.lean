/- Layer 15: KbE again -/
import Derived.Test.YtgdjlopnhecmjaaGreatDoorGzAX
import Derived.Test.YtgdjlopnhecmjaaGreatDoorGzAJ
import Derived.Lib.BitFns
import Derived.WalkKit
import Derived.Test.YtgdjlopnhecmjaaGreatDoorRows
import Derived.WalkLawsBesides
import Derived.Below
import Derived.ProofKit
import Derived.OpenShut
import Derived.ChangeOld
import Derived.SizedLaws
import Derived.OwnWalk
import Derived.WalkSmall
import Derived.Laws.AppendOwnNone
import Derived.Laws.IdiomStrings
import Derived.Laws.IdiomCopy
import Derived.Laws.CopyRow
import Derived.Laws.MakeOwn
import Derived.Deep.MidRow
import Derived.Deep.WholeRow
import Derived.Deep.OwnRows
import Derived.Deep.RegionHeld3
import Derived.Lib.SlBytesConst
import Derived.BigQuiet
namespace Go.Proofs.YtgdjlopnhecmjaaGreatDoor
open Go.RowKit
set_option linter.unusedVariables false
set_option maxRecDepth 4000
theorem ktell1_any (L : Nat → Nat) (cb fb hb : Nat) (a : Option Addr) (cap : Nat) (ps : List Nat) (sh : List Value) (P W : Nat) (φ : Nat → Bool) (m : List Sg) (s : Sg) (p bb gg q1 q2 q3 i : Nat) (x : Int) (w : World) (h : Cm w L cb fb hb a cap ps sh P W φ m (Kof m)) (ho : Okc P W m) (hsp : SpanAt w p bb gg (s.pg : Int) (s.cl : Int) (s.bts : Int) s.f) (hrt : Rt (s.pg : Int) (s.cl : Int) (s.bts : Int)) (hc : s.cl ≤ 7) (hi : i < slN (s.cl : Int)) (hx : 256 * (s.pg : Int) + (i : Int) * szI (s.cl : Int) (s.bts : Int) = x)
    (c1 : w.cell? ⟨q1, 0, none⟩ = some (.pointer (some ⟨p, 0, none⟩))) (c2 : w.cell? ⟨q2, 0, none⟩ = some (.pointer (some ⟨cb, 0, none⟩))) (c3 : w.cell? ⟨q3, 1, none⟩ = some (.int .i64 (s.cl : Nat))) (r : Bool) (hr : keepsB W (Kof m) s.cl x = r) :
    Calls Tryz.prog 174 #[.int .i64 (i : Nat), .pointer (some ⟨q1, 0, none⟩), .pointer (some ⟨q2, 0, none⟩), .pointer (some ⟨q3, 0, none⟩)] w fun e w' => e = .returned (.bool r) ∧ w = w' := by
  have HC : Hid (Cm w L cb fb hb a cap ps sh P W φ m (Kof m)) := h
  have HO : Hid (Okc P W m) := ho
  have HS : Hid (SpanAt w p bb gg (s.pg : Int) (s.cl : Int) (s.bts : Int) s.f) := hsp
  have HRT : Hid (Rt (s.pg : Int) (s.cl : Int) (s.bts : Int)) := hrt
  have HI : Hid (i < slN (s.cl : Int)) := hi
  have HX : Hid (256 * (s.pg : Int) + (i : Int) * szI (s.cl : Int) (s.bts : Int) = x) := hx
  have HR : Hid (keepsB W (Kof m) s.cl x = r) := hr
  have HCL : Hid (s.cl ≤ 7) := hc
  clear h ho hsp hrt hi hx hr hc
  go_enter Tryz.func174, Tryz.ntmps174
  go_wp2_with (first
    | (go_at_call 175; refine (at_in p _ _ _ i _ HS.out.box HC.out.tab.1 HRT.out HI.out).mono ?_; rw [HX.out]; rintro e w2 ⟨rfl, rfl⟩)
    | (go_at_call 176; refine (kkeeps_any L cb fb hb a cap ps sh P W φ m (Kof m) s.cl x _ HC.out HO.out.w1 HCL.out (fun v _ _ => Kof_ok HO.out v s.cl) r HR.out).mono ?_; rintro e w2 ⟨rfl, rfl⟩))
  go_ret
  exact ⟨rfl, rfl⟩

theorem stayA_filt {α : Type} (p : α → Bool) (q : Nat → Bool) : ∀ (l : List α) (k : Nat), (∀ j (hj : j < l.length), q (k + j) = !p l[j]) → stayA q k l = l.filter p
  | [], _, _ => rfl
  | x :: l, k, h => by
    have h0 : q k = !p x := by have := h 0 (by simp); simpa using this
    rw [stayA, stayA_filt p q l (k + 1) (fun j hj => by have := h (j + 1) (by simp; omega); rw [show k + 1 + j = k + (j + 1) by omega]; simpa using this), List.filter_cons, h0]
    cases p x <;> rfl
theorem own_vat {w : World} {B : Nat} {a : Option Addr} {l : List Int} {cap : Nat} (h : OwnsI w B a l cap) : VAt w (fun k => B ≤ k) 3 a (l.map (Value.int .i64)) cap := by
  obtain ⟨h0, ⟨h1, h2⟩ | ⟨g, c', cur, h1, hg, h2, h3, h4, h5, h6⟩⟩ := h
  · obtain rfl : l = [] := List.eq_nil_of_length_eq_zero h2
    cases h1
    exact .inl ⟨rfl, rfl, rfl⟩
  · cases h1
    exact .inr ⟨g, cur, rfl, hg, h2, by rw [List.length_map]; exact h3, h4, by rw [h5, Nat.mul_one], by rw [List.length_map]; rw [Nat.mul_one] at h6; exact h6⟩
theorem vat_own {w : World} {B : Nat} {a : Option Addr} {l : List Int} {cap : Nat} (h : VAt w (fun k => B ≤ k) 3 a (l.map (Value.int .i64)) cap) : OwnsI w B a l cap := by
  rcases h with ⟨rfl, h1, rfl⟩ | ⟨g, cur, rfl, hg, h2, h3, h4, h5, h6⟩
  · have : l = [] := List.map_eq_nil_iff.1 h1
    subst this
    exact ownsI_none w B
  · rw [List.length_map] at h3 h6
    exact ⟨by simp, .inr ⟨g, cap, cur, rfl, hg, h2, h3, h4, by rw [Nat.mul_one]; exact h5, by rw [Nat.mul_one]; exact h6⟩⟩
theorem idxI_nil (a : Option Addr) (cap : Nat) (q1 q2 q3 : Nat) (w : World) : Calls Tryz.prog 217 #[.slice a 0 cap, .func (.func 174) #[] #[.pointer (some ⟨q1, 0, none⟩), .pointer (some ⟨q2, 0, none⟩), .pointer (some ⟨q3, 0, none⟩)]] w fun e w' => e = .returned (.int .i64 (-1)) ∧ w = w' := by
  go_enter Tryz.func217, Tryz.ntmps217
  go_wp2
  go_loopw [8] (fun iv wr => iv = .int .i64 0 ∧ w = wr) (fun _ _ => 0)
  case atStart => exact ⟨rfl, rfl⟩
  case round =>
    obtain ⟨rfl, rfl⟩ := hrel
    go_wp2
    go_ret
    exact ⟨rfl, rfl⟩
theorem delFI_nil (a : Option Addr) (cap : Nat) (q1 q2 q3 : Nat) (w : World) : Calls Tryz.prog 173 #[.slice a 0 cap, .func (.func 174) #[] #[.pointer (some ⟨q1, 0, none⟩), .pointer (some ⟨q2, 0, none⟩), .pointer (some ⟨q3, 0, none⟩)]] w fun e w' => e = .returned (.slice a 0 cap) ∧ w = w' := by
  go_enter Tryz.func173, Tryz.ntmps173
  go_wp2_with (go_at_call 217; refine (idxI_nil a cap q1 q2 q3 _).mono ?_; rintro e w2 ⟨rfl, rfl⟩)
  go_ret
  exact ⟨rfl, rfl⟩
/-- What is left of a span's slots. -/
def tellF (W : Nat) (m : List Sg) (s : Sg) (l : List Int) : List Int := l.filter (fun x => !keepsB W (Kof m) s.cl (256 * (s.pg : Int) + x * szI (s.cl : Int) (s.bts : Int)))
theorem tell_core (L : Nat → Nat) (cb fb hb : Nat) (a : Option Addr) (cap : Nat) (ps : List Nat) (sh : List Value) (P W : Nat) (φ : Nat → Bool) (m : List Sg) (s : Sg) (p bb gg q1 q2 q3 B c2 : Nat) (l : List Int) (a2 : Option Addr) (w wx : World) (h : Cm w L cb fb hb a cap ps sh P W φ m (Kof m)) (ho : Okc P W m) (hsp : SpanAt w p bb gg (s.pg : Int) (s.cl : Int) (s.bts : Int) s.f) (hrt : Rt (s.pg : Int) (s.cl : Int) (s.bts : Int)) (hc : s.cl ≤ 7)
    (hb' : Below w.heap.size w wx) (ho2 : OwnsI wx B a2 l c2) (hB : w.heap.size ≤ B) (hl : ∀ x ∈ l, ∃ i : Nat, x = i ∧ i < slN (s.cl : Int)) (hll : l.length ≤ 100000) (hne : ∀ g, ob a2 = some g → q1 ≠ g ∧ q2 ≠ g ∧ q3 ≠ g)
    (h1 : wx.cell? ⟨q1, 0, none⟩ = some (.pointer (some ⟨p, 0, none⟩))) (h2 : wx.cell? ⟨q2, 0, none⟩ = some (.pointer (some ⟨cb, 0, none⟩))) (h3 : wx.cell? ⟨q3, 1, none⟩ = some (.int .i64 (s.cl : Nat))) :
    Calls Tryz.prog 173 #[.slice a2 l.length c2, .func (.func 174) #[] #[.pointer (some ⟨q1, 0, none⟩), .pointer (some ⟨q2, 0, none⟩), .pointer (some ⟨q3, 0, none⟩)]] wx fun e w' => e = .returned (.slice a2 (tellF W m s l).length c2) ∧ OwnsI w' B a2 (tellF W m s l) c2 ∧ Tu (fun k => ob a2 = some k) wx w' := by
  have hv := own_vat ho2
  rcases hv with ⟨rfl, e, rfl⟩ | ⟨g, cur, rfl, hg, hr⟩
  · have : l = [] := List.map_eq_nil_iff.1 e
    subst this
    refine (delFI_nil none 0 q1 q2 q3 wx).mono ?_
    rintro e w' ⟨rfl, rfl⟩
    exact ⟨rfl, ownsI_none _ _, Tu.refl _ _⟩
  · obtain ⟨n1, n2, n3⟩ := hne g rfl
    have k1 := World.block_lt_of_cell? wx _ h1
    have k2 := World.block_lt_of_cell? wx _ h2
    have k3 := World.block_lt_of_cell? wx _ h3
    refine (delFI_any (fun k => B ≤ k) g c2 l.length q1 q2 q3 (l.map (Value.int .i64)) (fun k => if hk : k < l.length then keepsB W (Kof m) s.cl (256 * (s.pg : Int) + l[k] * szI (s.cl : Int) (s.bts : Int)) else false) (fun _ wr => Tu (fun k => k = g) wx wr) wx (.inr ⟨g, cur, rfl, hg, hr⟩) (by rw [List.length_map]) hll (fun v hv => by obtain ⟨x, _, rfl⟩ := List.mem_map.1 hv; exact ⟨_, rfl⟩) (Tu.refl _ _) (fun k wr hk hJ => ?_) (fun k wr w' hJ on => hJ.only on rfl)).mono ?_
    · have hk' : k < l.length := by rw [List.length_map] at hk; exact hk
      rw [List.getElem_map, dif_pos hk']
      obtain ⟨i, ei, hi⟩ := hl _ (List.getElem_mem hk')
      rw [ei]
      have bw : Below w.heap.size w wr := hb'.trans (hJ.below (fun i e => by rw [e]; exact Nat.le_trans hB hg) hb'.size)
      refine (ktell1_any L cb fb hb a cap ps sh P W φ m s p bb gg q1 q2 q3 i _ wr (h.keep (Ext.refl _ _) bw) ho (hsp.keep bw) hrt hc hi rfl (by rw [hJ.cell n1 k1]; exact h1) (by rw [hJ.cell n2 k2]; exact h2) (by rw [hJ.cell n3 k3]; exact h3) _ rfl).mono ?_
      rintro e w' ⟨rfl, rfl⟩
      exact ⟨rfl, hJ, rfl⟩
    · rintro e w' ⟨n', rfl, hn, v, hJ⟩
      rw [stayA_map, stayA_filt (fun x => !keepsB W (Kof m) s.cl (256 * (s.pg : Int) + x * szI (s.cl : Int) (s.bts : Int))) _ l 0 (fun j hj => by rw [Nat.zero_add, dif_pos hj, Bool.not_not])] at hn v
      rw [List.length_map] at hn
      refine ⟨by rw [← hn]; rfl, vat_own v, hJ.mono (fun i _ e => by rw [e]; rfl)⟩
theorem slN_few : ∀ c : Nat, c < 8 → slN (c : Int) ≤ 100000 := by decide
theorem own_on {w w' : World} {B q : Nat} {a : Option Addr} {l : List Int} {cap : Nat} (h : OwnsI w B a l cap) (on : Only q w w') (hne : ∀ g, ob a = some g → g ≠ q) : OwnsI w' B a l cap := by
  obtain ⟨h0, h1 | ⟨g, c', cur, h1, hg, h2, h3⟩⟩ := h
  · exact ⟨h0, .inl h1⟩
  · have := hne g (by cases h1; rfl)
    exact ⟨h0, .inr ⟨g, c', cur, h1, hg, by rw [on.block g this]; exact h2, h3⟩⟩
theorem three_rows (w : World) (x y z : Obj) : (((w.alloc x).alloc y).alloc z).heap[w.heap.size]? = some x ∧ (((w.alloc x).alloc y).alloc z).heap[w.heap.size + 1]? = some y ∧ (((w.alloc x).alloc y).alloc z).heap[w.heap.size + 1 + 1]? = some z := by
  have hx := Go.heap_alloc_new w x
  have hy := Go.heap_alloc_new (w.alloc x) y
  have hz := Go.heap_alloc_new ((w.alloc x).alloc y) z
  have s1 : (w.alloc x).heap.size = w.heap.size + 1 := by simp
  have s2 : ((w.alloc x).alloc y).heap.size = w.heap.size + 1 + 1 := by simp
  rw [s1] at hy
  rw [s2] at hz
  have b1 := (Below.refl _ (w.alloc x)).alloc (Nat.le_refl _) y
  have b2 := (Below.refl _ ((w.alloc x).alloc y)).alloc (Nat.le_refl _) z
  exact ⟨by rw [b2.block _ (by omega), b1.block _ (by omega)]; exact hx, by rw [b2.block _ (by omega)]; exact hy, hz⟩
theorem ktell_any (L : Nat → Nat) (cb fb hb : Nat) (a : Option Addr) (cap : Nat) (PSL : List Nat) (sh : List Value) (P W : Nat) (φ : Nat → Bool) (m : List Sg) (s : Sg) (p bb gg : Nat) (w : World) (h : Cm w L cb fb hb a cap PSL sh P W φ m (Kof m)) (ho : Okc P W m) (hsp : SpanAt w p bb gg (s.pg : Int) (s.cl : Int) (s.bts : Int) s.f) (hrt : Rt (s.pg : Int) (s.cl : Int) (s.bts : Int)) (hc : s.cl ≤ 7) (l' : List Int) (hl' : tellF W m s (lsL s.f (slN (s.cl : Int))) = l') :
    Calls Tryz.prog 116 #[.pointer (some ⟨cb, 0, none⟩), .pointer (some ⟨p, 0, none⟩)] w fun e w' => ∃ a' cap', e = .returned (.agg #[.int .i64 (s.pg : Nat), .int .i64 (s.cl : Nat), .int .i64 (s.bts : Nat), .slice a' l'.length cap']) ∧ OwnsI w' w.heap.size a' l' cap' ∧ Below w.heap.size w w' := by
  obtain ⟨D, hD⟩ : ∃ D, (((w.alloc (.cells #[.pointer (some ⟨cb, 0, none⟩)] 110)).alloc (.cells #[.pointer (some ⟨p, 0, none⟩)] 190)).alloc (.cells #[.int .i64 0, .int .i64 0, .int .i64 0, .slice none 0 0] 130)) = D := ⟨_, rfl⟩
  have HD : Hid ((((w.alloc (.cells #[.pointer (some ⟨cb, 0, none⟩)] 110)).alloc (.cells #[.pointer (some ⟨p, 0, none⟩)] 190)).alloc (.cells #[.int .i64 0, .int .i64 0, .int .i64 0, .slice none 0 0] 130)) = D) := hD
  have bD : Below w.heap.size w D := by rw [← hD]; exact (((Below.refl _ w).alloc (Nat.le_refl _) _).alloc (by simp) _).alloc (by simp; omega) _
  have zD : D.heap.size = w.heap.size + 3 := by rw [← hD]; simp
  have SD : Hid (SpanAt D p bb gg (s.pg : Int) (s.cl : Int) (s.bts : Int) s.f) := hsp.keep bD
  have BD : Hid (Below w.heap.size w D) := bD
  have HC : Hid (Cm w L cb fb hb a cap PSL sh P W φ m (Kof m)) := h
  have TD : Hid (TabB D) := (h.keep (Ext.refl _ _) bD).tab.2
  obtain ⟨l, hl⟩ : ∃ l, lsL s.f (slN (s.cl : Int)) = l := ⟨_, rfl⟩
  have HL : Hid (lsL s.f (slN (s.cl : Int)) = l) := hl
  obtain ⟨r1, r2, r3⟩ := three_rows w (.cells #[.pointer (some ⟨cb, 0, none⟩)] 110) (.cells #[.pointer (some ⟨p, 0, none⟩)] 190) (.cells #[.int .i64 0, .int .i64 0, .int .i64 0, .slice none 0 0] 130)
  rw [hD] at r1 r2 r3
  have R1 : Hid (D.heap[w.heap.size]? = some (.cells #[.pointer (some ⟨cb, 0, none⟩)] 110 (0, 0))) := r1
  have R2 : Hid (D.heap[w.heap.size + 1]? = some (.cells #[.pointer (some ⟨p, 0, none⟩)] 190 (0, 0))) := r2
  have R3 : Hid (D.heap[w.heap.size + 1 + 1]? = some (.cells (dcells 0 0 0 none 0 0) 130 (0, 0))) := r3
  have HSP : Hid (SpanAt w p bb gg (s.pg : Int) (s.cl : Int) (s.bts : Int) s.f) := hsp
  have HO : Hid (Okc P W m) := ho
  have HRT : Hid (Rt (s.pg : Int) (s.cl : Int) (s.bts : Int)) := hrt
  have HCL : Hid (s.cl ≤ 7) := hc
  have HL' : Hid (tellF W m s l = l') := by rw [← hl]; exact hl'
  have HM : Hid (∀ x ∈ l, ∃ i : Nat, x = i ∧ i < slN (s.cl : Int)) := fun x hx => by rw [← hl] at hx; obtain ⟨i, e, hi, _⟩ := lsL_mem _ _ _ hx; exact ⟨i, e, hi⟩
  have HLL : Hid (l.length ≤ 100000) := by show _ ≤ _; rw [← hl, lsL_len]; have := cnt_le s.f (slN (s.cl : Int)); have := slN_few s.cl (Nat.lt_succ_of_le hc); omega
  have ZD : Hid (D.heap.size = w.heap.size + 3) := zD
  have HWX : Hid (∀ (w2 : World) (a2 : Option Addr) (c2 : Nat), OwnsI w2 D.heap.size a2 l c2 → Below D.heap.size D w2 → Calls Tryz.prog 173 #[.slice a2 l.length c2, .func (.func 174) #[] #[.pointer (some ⟨w.heap.size + 1, 0, none⟩), .pointer (some ⟨w.heap.size, 0, none⟩), .pointer (some ⟨w2.heap.size, 0, none⟩)]] (w2.alloc (.cells (dcells (s.pg : Int) (s.cl : Int) (s.bts : Int) a2 l.length c2) 130)) fun e w3 => ∃ n' : Nat, e = .returned (.slice a2 n' c2) ∧ l'.length = n' ∧ OwnsI w3 D.heap.size a2 l' c2 ∧ w3.heap[w2.heap.size]? = some (.cells (dcells (s.pg : Int) (s.cl : Int) (s.bts : Int) a2 l.length c2) 130 (0, 0)) ∧ w3.heap[w.heap.size + 1 + 1]? = some (.cells (dcells 0 0 0 none 0 0) 130 (0, 0)) ∧ Below w.heap.size w w3 ∧ (∀ g, ob a2 = some g → D.heap.size ≤ g ∧ g ≠ w2.heap.size)) := fun w2 a2 c2 o2 b2 => by
    obtain ⟨_, _, _, pt⟩ := o2.parts
    have ps : ∀ g, ob a2 = some g → D.heap.size ≤ g ∧ g < w2.heap.size := fun g hg => by
      cases a2 with
      | none => cases hg
      | some ad => have := pt ad rfl; cases hg; exact ⟨this.1, this.2.1⟩
    obtain ⟨wx, hwx⟩ : ∃ wx, w2.alloc (.cells (dcells (s.pg : Int) (s.cl : Int) (s.bts : Int) a2 l.length c2) 130) = wx := ⟨_, rfl⟩
    have bx : Below w2.heap.size w2 wx := by rw [← hwx]; exact (Below.refl _ w2).alloc (Nat.le_refl _) _
    have rx : wx.heap[w2.heap.size]? = some (.cells (dcells (s.pg : Int) (s.cl : Int) (s.bts : Int) a2 l.length c2) 130 (0, 0)) := by rw [← hwx]; exact Go.heap_alloc_new w2 _
    have z2 := b2.size
    have zD := ZD.out
    have bwx : Below w.heap.size w wx := bD.trans ((b2.mono (by omega)).trans (bx.mono (by omega)))
    have y1 := bblock bx (bblock b2 r1)
    have y2 := bblock bx (bblock b2 r2)
    have y3 := bblock bx (bblock b2 r3)
    rw [hwx]
    refine (tell_core L cb fb hb a cap PSL sh P W φ m s p bb gg (w.heap.size + 1) w.heap.size w2.heap.size D.heap.size c2 l a2 w wx h ho hsp hrt hc bwx (o2.keep bx) (by omega) HM.out HLL.out (fun g hg => by have := ps g hg; omega) (cell_of_row _ _ 0 _ _ _ y2) (cell_of_row _ _ 0 _ _ _ y1) (cell_of_row _ _ 1 _ _ _ rx)).mono ?_
    rintro e w3 ⟨rfl, o3, t3⟩
    rw [HL'.out] at o3 ⊢
    refine ⟨_, rfl, rfl, o3, t3.block _ _ rx (fun e => by have := ps _ e; omega), t3.block _ _ y3 (fun e => by have := ps _ e; omega), bwx.trans (t3.below (fun i e => by have := ps i e; omega) bwx.size), fun g hg => by have := ps g hg; omega⟩
  clear hD bD h hsp hl hl' hrt ho hc r1 r2 r3
  go_enter Tryz.func116, Tryz.ntmps116
  go_wp2_with fail
  rw [HD.out]
  go_wp2_with (first | (have b3 := B2; go_at_call 173; refine (HWX.out w2 a2 c2 O2.out B2.out).mono ?_; rintro e w3 ⟨n', rfl, hn, o3, x1, x2, b4, hg⟩; obtain ⟨u0, u1, u2, u3⟩ : w3.cell? ⟨w2.heap.size, 0, none⟩ = some (.int .i64 (s.pg : Int)) ∧ w3.cell? ⟨w2.heap.size, 1, none⟩ = some (.int .i64 (s.cl : Int)) ∧ w3.cell? ⟨w2.heap.size, 2, none⟩ = some (.int .i64 (s.bts : Int)) ∧ w3.cell? ⟨w2.heap.size, 3, none⟩ = some (.slice a2 l.length c2) := ⟨cell_of_row _ _ 0 _ _ _ x1, cell_of_row _ _ 1 _ _ _ x1, cell_of_row _ _ 2 _ _ _ x1, cell_of_row _ _ 3 _ _ _ x1⟩; have X1 : Hid (w3.heap[w2.heap.size]? = some (.cells (dcells (s.pg : Int) (s.cl : Int) (s.bts : Int) a2 l.length c2) 130 (0, 0))) := x1; have X2 : Hid (w3.heap[w.heap.size + 1 + 1]? = some (.cells (dcells 0 0 0 none 0 0) 130 (0, 0))) := x2; have O3 : Hid (OwnsI w3 D.heap.size a2 l' c2) := o3; have B4 : Hid (Below w.heap.size w w3) := b4; have HG : Hid (∀ g, ob a2 = some g → D.heap.size ≤ g ∧ g ≠ w2.heap.size) := hg; have HN : Hid (l'.length = n') := hn; have y3 : w3.frozen? ⟨w2.heap.size, 3, none⟩ = false := (frozen_of_row _ _ 3 _ _ x1); obtain ⟨v0, v1, v2, v3⟩ : w3.cell? ⟨w.heap.size + 1 + 1, 0, none⟩ = some (.int .i64 0) ∧ w3.cell? ⟨w.heap.size + 1 + 1, 1, none⟩ = some (.int .i64 0) ∧ w3.cell? ⟨w.heap.size + 1 + 1, 2, none⟩ = some (.int .i64 0) ∧ w3.cell? ⟨w.heap.size + 1 + 1, 3, none⟩ = some (.slice none 0 0) := ⟨cell_of_row _ _ 0 _ _ _ x2, cell_of_row _ _ 1 _ _ _ x2, cell_of_row _ _ 2 _ _ _ x2, cell_of_row _ _ 3 _ _ _ x2⟩; have f0 : w3.frozen? ⟨w.heap.size + 1 + 1, 0, none⟩ = false := (frozen_of_row _ _ 0 _ _ x2); have f1 : w3.frozen? ⟨w.heap.size + 1 + 1, 1, none⟩ = false := (frozen_of_row _ _ 1 _ _ x2); have f2 : w3.frozen? ⟨w.heap.size + 1 + 1, 2, none⟩ = false := (frozen_of_row _ _ 2 _ _ x2); have f3 : w3.frozen? ⟨w.heap.size + 1 + 1, 3, none⟩ = false := (frozen_of_row _ _ 3 _ _ x2); have nq : w.heap.size + 1 + 1 ≠ w2.heap.size := (by have z2 := B2.out.size; have zz := ZD.out; omega); clear o3 x1 x2 b4 hg hn) | (go_at_call 172; refine (data_any p bb gg _ _ _ s.f _ SD.out TD.out l HL.out).mono ?_; rintro e w2 ⟨a2, c2, rfl, o2, b2⟩; have O2 : Hid (OwnsI w2 D.heap.size a2 l c2) := o2; have B2 : Hid (Below D.heap.size D w2) := b2; clear o2 b2))
  have X3 : Hid ((w3.setCell ⟨w2.heap.size, 3, none⟩ (.slice a2 n' c2)).heap[w.heap.size + 1 + 1]? = some (.cells (dcells 0 0 0 none 0 0) 130 (0, 0))) := by
    show _ = _
    rw [(Only.set w2.heap.size 3 _ w3).block _ nq]; exact X2.out
  obtain ⟨e0, e1, e2, e3⟩ := lay4_cells (p := (s.pg : Int)) (c := (s.cl : Int)) (s := (s.bts : Int)) (v := .slice a2 n' c2) X3.out
  have O4 : Hid (OwnsI (lay4 (w3.setCell ⟨w2.heap.size, 3, none⟩ (.slice a2 n' c2)) (w.heap.size + 1 + 1) (s.pg : Int) (s.cl : Int) (s.bts : Int) (.slice a2 n' c2)) w.heap.size a2 l' c2) := (lay4_ownsI (own_on O3.out (Only.set w2.heap.size 3 _ w3) (fun g hg => (HG.out g hg).2)) (by have := ZD.out; omega)).mono (by have := ZD.out; omega)
  have B5 : Hid (Below w.heap.size w (lay4 (w3.setCell ⟨w2.heap.size, 3, none⟩ (.slice a2 n' c2)) (w.heap.size + 1 + 1) (s.pg : Int) (s.cl : Int) (s.bts : Int) (.slice a2 n' c2))) := lay4_below (B4.out.setCell (by have z2 := B2.out.size; have zz := ZD.out; show w.heap.size ≤ w2.heap.size; omega) _) (by omega)
  unfold lay4 at e0 e1 e2 e3
  refine bodyPost_ret (v := .agg #[.int .i64 (s.pg : Int), .int .i64 (s.cl : Int), .int .i64 (s.bts : Int), .slice a2 n' c2]) (by simp [results, Tryz.results116, go_sem, e0, e1, e2, e3]) rfl ⟨a2, c2, by rw [HN.out], O4.out, B5.out⟩
end Go.Proofs.YtgdjlopnhecmjaaGreatDoor

/- Layer 15: KbF again -/
namespace Go.Proofs.YtgdjlopnhecmjaaGreatDoor
open Go.RowKit
set_option linter.unusedVariables false
set_option maxRecDepth 4000
/-- What a span of a cache tells. -/
def tellT (W : Nat) (m : List Sg) (s : Sg) : Td := ⟨(s.pg : Int), (s.cl : Int), (s.bts : Int), tellF W m s (lsL s.f (slN (s.cl : Int)))⟩
set_option maxHeartbeats 1000000 in
theorem kspans_any (L : Nat → Nat) (cb P W : Nat) (m : List Sg) (w : World) (h : Ca w L cb P W m) (ho : Okc P W m) :
    Calls Tryz.prog 54 #[.pointer (some ⟨cb, 0, none⟩)] w fun e w' => ∃ v, e = .returned v ∧ Told w' w.heap.size v (m.map (tellT W m)) ∧ Below w.heap.size w w' := by
  obtain ⟨fb, hb, a, cap, ps, sh, hC⟩ := h
  have HO : Hid (Okc P W m) := ho
  have HC : Hid (Cm w L cb fb hb a cap ps sh P W (pgF m) m (Kof m)) := hC
  have c1 := hC.cell1
  have hP := ho.p1
  have hml := ho.fit.len
  obtain ⟨n, hn⟩ : ∃ n, m.length = n := ⟨_, rfl⟩
  have HN : Hid (m.length = n) := hn
  rw [hn] at c1 hml
  clear hC ho hn
  go_enter Tryz.func54, Tryz.ntmps54
  go_wp2_with fail
  go_loopw [3, 13] (fun lv iv wr => ∃ (k : Nat) (av : Option Addr) (cv : Nat), k ≤ n ∧ iv = .int .i64 (k : Nat) ∧ lv = .slice av k cv ∧ Told wr w.heap.size (.slice av k cv) ((m.take k).map (tellT W m)) ∧ Below w.heap.size w wr) (fun _ iv _ => n - lenW iv)
  case atStart => exact ⟨0, none, 0, Nat.zero_le _, rfl, rfl, Told.nil _ _, Below.refl _ _⟩
  case round =>
    obtain ⟨k, av, cv, hk, rfl, rfl, ht, hb⟩ := hrel
    have HT : Hid (Told _ w.heap.size _ ((m.take k).map (tellT W m))) := ht
    have HB : Hid (Below w.heap.size w _) := hb
    clear ht hb
    rcases Nat.lt_or_eq_of_le hk with hkn | rfl
    · have C0 := HC.out.keep (Ext.refl _ _) HB.out
      have hkm : k < m.length := by rw [HN.out]; exact hkn
      obtain ⟨g, p, rfl, hg3, hgl, cg, hp, hsp⟩ := C0.at k hkm
      have C1 : Hid (Cm _ L cb fb hb (some ⟨g, 0, none⟩) cap ps sh P W (pgF m) m (Kof m)) := C0
      obtain ⟨bb, gg, hat, _⟩ := hsp
      have RT := Sg.Ok.rt HO.out.fit HO.out.p1 (List.getElem_mem hkm)
      have ET : (m.take k).map (tellT W m) ++ [tellT W m m[k]] = (m.take (k + 1)).map (tellT W m) := by rw [List.take_add_one, List.map_append, List.getElem?_eq_getElem hkm]; rfl
      obtain ⟨s, hs⟩ : ∃ s, m[k] = s := ⟨_, rfl⟩
      rw [hs] at hat RT ET
      have HAT : Hid (SpanAt _ p bb gg (s.pg : Int) (s.cl : Int) (s.bts : Int) s.f) := hat
      have HRT : Hid (Rt (s.pg : Int) (s.cl : Int) (s.bts : Int)) := RT
      have HCL : Hid (s.cl ≤ 7) := by have := RT.c7; show _ ≤ _; omega
      obtain ⟨l', hl'⟩ : ∃ l', tellF W m s (lsL s.f (slN (s.cl : Int))) = l' := ⟨_, rfl⟩
      have HL' : Hid (tellF W m s (lsL s.f (slN (s.cl : Int))) = l') := hl'
      have HET : Hid ((m.take k).map (tellT W m) ++ [⟨(s.pg : Int), (s.cl : Int), (s.bts : Int), l'⟩] = (m.take (k + 1)).map (tellT W m)) := by rw [← hl']; exact ET
      have HLN : Hid (((m.take k).map (tellT W m)).length ≤ 100000) := by show _ ≤ _; rw [List.length_map, List.length_take]; omega
      have HKL : Hid (((m.take k).map (tellT W m)).length = k) := by show _ = _; rw [List.length_map, List.length_take]; omega
      have hi0 : (0 : Int) ≤ (k : Int) := by omega
      have hii : (k : Int) < (n : Int) := by omega
      clear C0 hat RT ET hs hl' hp hg3
      go_wp2_with (first
        | (have b4 := b3; at_builtin; refine wpList_told rfl _ _ rfl w.heap.size (by with_reducible exact SZ.out) av k cv ((m.take k).map (tellT W m)) rfl HKL.out (by with_reducible exact TT.out) _ 1 ⟨⟨(s.pg : Int), (s.cl : Int), (s.bts : Int), l'⟩, a', c'⟩ l'.length rfl rfl (by with_reducible exact RR.out) (by with_reducible exact OO.out) HLN.out ?_; intro a4 c4 w4 t4 b4; have T4 : Hid (Told w4 w.heap.size (.slice a4 (k + 1) c4) ((m.take (k + 1)).map (tellT W m))) := (by rw [← HET.out]; exact t4); have B4 : Hid (Below w.heap.size w w4) := BB.out.trans b4; clear t4 b4)
        | (go_at_call 116; refine (ktell_any L cb fb hb (some ⟨g, 0, none⟩) cap ps sh P W (pgF m) m s p bb gg _ C1.out HO.out HAT.out HRT.out HCL.out l' HL'.out).mono ?_; rintro e w3 ⟨a', c', rfl, o3, b3⟩; have T3 : Hid (Told w3 w.heap.size _ ((m.take k).map (tellT W m))) := HT.out.keep b3; have TT : Hid (Told (w3.alloc (.cells #[.int .i64 (s.pg : Int), .int .i64 (s.cl : Int), .int .i64 (s.bts : Int), .slice a' l'.length c'] 130)) w.heap.size _ ((m.take k).map (tellT W m))) := T3.out.keep ((Below.refl _ w3).alloc (Nat.le_refl _) _); have z3 : w.heap.size ≤ w3.heap.size := Nat.le_trans HB.out.size b3.size; have BB : Hid (Below w.heap.size w (w3.alloc (.cells #[.int .i64 (s.pg : Int), .int .i64 (s.cl : Int), .int .i64 (s.bts : Int), .slice a' l'.length c'] 130))) := (HB.out.trans (b3.mono HB.out.size)).alloc z3 _; have SZ : Hid (w.heap.size ≤ (w3.alloc (.cells #[.int .i64 (s.pg : Int), .int .i64 (s.cl : Int), .int .i64 (s.bts : Int), .slice a' l'.length c'] 130)).heap.size) := BB.out.size; have RR : Hid ((w3.alloc (.cells #[.int .i64 (s.pg : Int), .int .i64 (s.cl : Int), .int .i64 (s.bts : Int), .slice a' l'.length c'] 130)).heap[w3.heap.size]? = some (.cells (dcells (s.pg : Int) (s.cl : Int) (s.bts : Int) a' l'.length c') 130 (0, 0))) := Go.heap_alloc_new w3 _; have OO : Hid (OwnsI (w3.alloc (.cells #[.int .i64 (s.pg : Int), .int .i64 (s.cl : Int), .int .i64 (s.bts : Int), .slice a' l'.length c'] 130)) w.heap.size a' l' c') := ((o3.mono HB.out.size).keep ((Below.refl _ w3).alloc (Nat.le_refl _) _)); clear o3 z3))
      go_roundw
      case rel => exact ⟨k + 1, a4, c4, by omega, by congr 1, rfl, T4.out, B4.out⟩
      case measure => simp [lenW]; omega
    · go_wp2
      go_ret
      refine ⟨_, rfl, ?_, HB.out⟩
      have := HT.out
      rw [List.take_of_length_le (Nat.le_of_eq HN.out)] at this
      exact this
end Go.Proofs.YtgdjlopnhecmjaaGreatDoor

/- Layer 15: KcA again -/
namespace Go.Proofs.YtgdjlopnhecmjaaGreatDoor
open Go.RowKit
set_option linter.unusedVariables false
set_option maxRecDepth 4000
theorem keep0 {w w' : World} {L L' : Nat → Nat} {l2 : Nat} (hL : Ext w L L') (ht : Tu (fun k => (L k = 0 ∧ k ≠ 0 ∧ k ≠ 1) ∨ w.heap.size ≤ k) w w') (hne : l2 ≠ 0) : ∀ (i : Nat) (o : Obj), w.heap[i]? = some o → L' i = l2 → w'.heap[i]? = some o := fun i o ho hi =>
  ht.block i o ho (by have hlt := (Array.getElem?_eq_some_iff.1 ho).1; rw [hL i hlt] at hi; rintro (h | h) <;> omega)
/-- Blocks that are not the cache's turned. -/
theorem Cm.beside {w w' : World} {L L' : Nat → Nat} {cb fb hb : Nat} {a : Option Addr} {cap : Nat} {ps : List Nat} {sh : List Value} {P W : Nat} {φ : Nat → Bool} {m : List Sg} {K : Nat → Nat → List Nat} (h : Cm w L cb fb hb a cap ps sh P W φ m K) (hL : Ext w L L') (ht : Tu (fun k => (L k = 0 ∧ k ≠ 0 ∧ k ≠ 1) ∨ w.heap.size ≤ k) w w') :
    Cm w' L' cb fb hb a cap ps sh P W φ m K := by
  have t0 := h.tab.1.1
  have t1 := h.tab.2.1
  have hm : ∀ l2 i, i < w.heap.size → L i = l2 → L' i = l2 := fun l2 i hi e => (hL i hi).trans e
  refine ⟨h.tab.tu ht (by rintro (e | e) <;> omega) (by rintro (e | e) <;> omega), hm _ _ t0 h.l0, hm _ _ t1 h.l1, keep0 hL ht (by decide) cb _ h.box (hm _ _ (hlt h.box) h.lb), hm _ _ (hlt h.box) h.lb, (h.free.mono (hm 2)).same (keep0 hL ht (by decide)), (h.row.mono (hm 3)).same (keep0 hL ht (by decide)), h.plen, fun i hi => ((h.spans i hi).mono (hm _)).same (keep0 hL ht (by omega)) ht.size, keep0 hL ht (by decide) hb _ h.hrow (hm _ _ (hlt h.hrow) h.lh), hm _ _ (hlt h.hrow) h.lh, h.shl, fun v c hv hc => ?_⟩
  obtain ⟨a', cap', h1, h2⟩ := h.shelf v c hv hc
  exact ⟨a', cap', h1, (h2.mono (hm _)).same (keep0 hL ht (by omega))⟩
theorem Ca.beside {w w' : World} {L L' : Nat → Nat} {cb P W : Nat} {m : List Sg} (h : Ca w L cb P W m) (hL : Ext w L L') (ht : Tu (fun k => (L k = 0 ∧ k ≠ 0 ∧ k ≠ 1) ∨ w.heap.size ≤ k) w w') : Ca w' L' cb P W m := by
  obtain ⟨fb, hb, a, cap, ps, sh, hC⟩ := h
  exact ⟨fb, hb, a, cap, ps, sh, hC.beside hL ht⟩
end Go.Proofs.YtgdjlopnhecmjaaGreatDoor

/- Layer 15: NumP again -/
namespace Go.Proofs.YtgdjlopnhecmjaaGreatDoor
open Go.RowKit
set_option linter.unusedVariables false
set_option maxRecDepth 4000
theorem putL_length (k : Nat) : ∀ n, (putL k n).length = k := by
  induction k with
  | zero => intro n; rfl
  | succ k ih => intro n; simp [putL, ih]

end Go.Proofs.YtgdjlopnhecmjaaGreatDoor

/- Layer 15: ArP again -/
namespace Go.Proofs.YtgdjlopnhecmjaaGreatDoor
open Go.RowKit
set_option linter.unusedVariables false
set_option maxRecDepth 4000
theorem AllB.zeros (n : Nat) : AllB (List.replicate n 0) := fun x hx => by rw [List.eq_of_mem_replicate hx]; omega
/-- So many bytes, from this place on, lie among n. -/
def inR (n : Nat) (o k : Int) : Prop := 0 ≤ k ∧ 0 ≤ o ∧ o + k ≤ (n : Int)
instance (n : Nat) (o k : Int) : Decidable (inR n o k) := by unfold inR; infer_instance

/-- The error's number. -/
def errR (n : Nat) (o k : Int) : Int := if inR n o k then 0 else 10
/-- What is read. -/
def readR (l : List Int) (o k : Int) : List Int := if inR l.length o k then (l.drop o.toNat).take k.toNat else []
def writeR (l : List Int) (o : Int) (b : List Int) : List Int := if inR l.length o b.length then overR l o.toNat b else l
def zeroR (l : List Int) (o k : Int) : List Int := if inR l.length o k then overR l o.toNat (List.replicate k.toNat 0) else l
theorem errR_in {n : Nat} {o k : Int} (h : inR n o k) : errR n o k = 0 := if_pos h
theorem errR_out {n : Nat} {o k : Int} (h : ¬ inR n o k) : errR n o k = 10 := if_neg h
theorem readR_in {l : List Int} {o k : Int} (h : inR l.length o k) : readR l o k = (l.drop o.toNat).take k.toNat := if_pos h
theorem readR_out {l : List Int} {o k : Int} (h : ¬ inR l.length o k) : readR l o k = [] := if_neg h
theorem readR_len {l : List Int} {o k : Int} (h : inR l.length o k) : (readR l o k).length = k.toNat := by
  rw [readR_in h]; unfold inR at h; simp; omega
theorem overR_len {l : List Int} {o : Nat} {b : List Int} (h : o + b.length ≤ l.length) : (overR l o b).length = l.length := by
  unfold overR; simp; omega
theorem AllB.over {l b : List Int} (h : AllB l) (hb : AllB b) (o : Nat) : AllB (overR l o b) := ((h.take _).append hb).append (h.drop _)
/-- The number of the eight bytes there. -/
def wordR (l : List Int) (o : Int) : Int := getL (readR l o 8)
end Go.Proofs.YtgdjlopnhecmjaaGreatDoor

/- Layer 15: ArA again -/
namespace Go.Proofs.YtgdjlopnhecmjaaGreatDoor
open Go.RowKit
set_option linter.unusedVariables false
set_option maxRecDepth 4000
theorem Below.ofDrewNZ {B m : Nat} {w w' : World} (h : Below B (w.drewN m) w') : Below B w w' := ⟨h.os, h.tape, h.output, h.size, h.block⟩
/-- An arena: its base and its bytes, in a block of type t and one of bytes. -/
structure Ar (t : TypeId) (w : World) (b g : Nat) (base : Int) (l : List Int) : Prop where
  box : w.heap[b]? = some (.cells #[.int .i64 base, .slice (some ⟨g, 0, none⟩) l.length l.length] t (0, 0))
  row : RowB w g l
  all : AllB l
  ne : b ≠ g
  lo : 256 ≤ base
  hi : base ≤ 1099511627776
  len : l.length ≤ 1048576
theorem Ar.lt {t : TypeId} {w : World} {b g : Nat} {base : Int} {l : List Int} (h : Ar t w b g base l) : b < w.heap.size := (Array.getElem?_eq_some_iff.1 h.box).1
theorem Ar.cell0 {t : TypeId} {w : World} {b g : Nat} {base : Int} {l : List Int} (h : Ar t w b g base l) : w.cell? ⟨b, 0, none⟩ = some (.int .i64 base) := cell_of_row w b 0 _ _ _ h.box
theorem Ar.cell1 {t : TypeId} {w : World} {b g : Nat} {base : Int} {l : List Int} (h : Ar t w b g base l) : w.cell? ⟨b, 1, none⟩ = some (.slice (some ⟨g, 0, none⟩) l.length l.length) := cell_of_row w b 1 _ _ _ h.box
theorem Ar.keep {t : TypeId} {w w' : World} {b g : Nat} {base : Int} {l : List Int} (h : Ar t w b g base l) (hb : Below w.heap.size w w') : Ar t w' b g base l :=
  ⟨by rw [hb.block b h.lt]; exact h.box, h.row.keep hb, h.all, h.ne, h.lo, h.hi, h.len⟩
/-- Its row alone has turned. -/
theorem Ar.turned {t : TypeId} {w w' : World} {b g : Nat} {base : Int} {l l' : List Int} (h : Ar t w b g base l) (ht : Tg g w w') (hr : RowB w' g l') (ha : AllB l') (hl : l'.length = l.length) : Ar t w' b g base l' :=
  ⟨by rw [ht.block b h.lt h.ne, hl]; exact h.box, hr, ha, h.ne, h.lo, h.hi, by rw [hl]; exact h.len⟩
theorem wpList_clear0 {ops : Array Oper} {rest : List Oper} {o : Oper} {a : Act} {Q : Exit → Act → World → Prop} {w : World} (hgd : o.guard = none) (s : Operand)
    (ho : o.op = .call { callee := .builtin .clear, args := #[s], argTypes := #[39] })
    (c : Nat) (ad : Option Addr) (hs : a.eval s = .slice ad 0 c)
    (h : wpList Tryz.prog ops Q rest (a.put o.dst (.tuple #[])) w) : wpList Tryz.prog ops Q (o :: rest) a w := by
  refine wpList_plain hgd fun K' hK' => ?_
  have hrun : (Builtin.clear_ #[39] o.type #[.slice ad 0 c]).run Tryz.prog w = .ok (.tuple #[]) w := by cases ad <;> simp [Builtin.clear_, run_underlying Tryz.underlying39]
  unfold Oper.wp
  simp [execOp, ho, resolve, invoke, builtin, hs, hrun, Result.andThen]
  exact hK' _ _ h
end Go.Proofs.YtgdjlopnhecmjaaGreatDoor
