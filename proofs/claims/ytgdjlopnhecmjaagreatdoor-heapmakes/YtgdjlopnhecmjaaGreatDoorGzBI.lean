/- Layer 15: Free of a heap. -/
import Derived.Test.YtgdjlopnhecmjaaGreatDoorGzBH
namespace Go.Proofs.YtgdjlopnhecmjaaGreatDoor
open Go.RowKit
set_option linter.unusedVariables false
set_option maxRecDepth 4000

section
variable {w : World} {Λ : Nat → Nat} {hb pa pk pc pn mb q W : Nat} {base : Int} {bs : List Int} {ks : List Kn} {P : Nat} {m : List Sg} {N : Nat} {rs : List HRw} {f : Int → Option Nat}
theorem egive_any (h : Ehx w Λ hb pa pk pc pn mb q W base bs ks P m N rs f) (ho : Okc P W m) (v x : Int) (hx : -9223372036854775808 ≤ x ∧ x ≤ 9223372036854775807) (r : Nat) (m' : List Sg) (hT : giveM W v x m = (r, m')) :
    Calls Tryz.prog 94 #[.pointer (some ⟨pc, 0, none⟩), .int .i64 v, .int .i64 x] w fun e w' => e = .returned (.int .i64 (r : Nat)) ∧ ∃ Λ', Ehx w' Λ' hb pa pk pc pn mb q W base bs ks P m' N rs f ∧ Ehm Λ w Λ' w' := by
  obtain ⟨L, hC, hG⟩ := h.ca
  have q := kgive_any L pc P W m v x w hC ho hx
  rw [hT] at q
  exact q.mono (fun e w' ⟨e1, e2⟩ => ⟨e1, _, hG w' _ e2⟩)
theorem edrop_ok (h : Ehx w Λ hb pa pk pc pn mb q W base bs ks P m N rs f) (x i : Nat) (hx : x < 18446744073709551616) (hi : LvAt rs x i) :
    Calls Tryz.prog 95 #[.pointer (some ⟨pn, 0, none⟩), .int .u64 (x : Nat)] w fun e w' => e = .returned (.int .i64 0) ∧ ∃ Λ', Ehx w' Λ' hb pa pk pc pn mb q W base bs ks P m N (dropL rs i) f ∧ Ehm Λ w Λ' w' := by
  obtain ⟨B, a, c, hC, hB, hG⟩ := h.nm
  have q := drop_ok B pn a c N rs x i w hC hx hi
  exact q.mono (fun e w' ⟨e1, e2, e3⟩ => ⟨e1, _, hG w' a c _ e2 e3 (.inl rfl)⟩)
set_option maxRecDepth 20000 in
set_option maxHeartbeats 4000000 in
/-- An object's end. -/
theorem efree_any (h : Ehx w Λ hb pa pk pc pn mb q W base bs ks P m N rs f) (ho : Okc P W m) (v : Int) (hv : 0 ≤ v ∧ v < (W : Int)) (x i k : Nat) (p : Int) (lv : Liv ks rs x i k p) (V : Vw) (hVr : V.rs = rs) (hVk : V.ks = ks)
    (hF : ∀ y ∈ fldU V rs.length, 0 ≤ y ∧ y + 8 ≤ (bs.length : Int)) (hBl : bs.length ≤ 1048576)
    (hK : ∀ r, r < rs.length → (rwD rs r).live = true → ∃ k : Nat, (rwD rs r).kind = (k : Int) ∧ k < ks.length) (hP : ∀ r, r < rs.length → (rwD rs r).live = true → 0 ≤ (rwD rs r).pl ∧ (rwD rs r).pl ≤ 1048576) (hL : ∀ k, k < ks.length → (knD ks k).l.length ≤ 16 ∧ ∀ p ∈ (knD ks k).l, 0 ≤ p ∧ p ≤ 4096) (r : Nat) (m' : List Sg) (hT : giveM W v p m = (r, m')) :
    Calls Tryz.prog 36 #[.pointer (some ⟨hb, 0, none⟩), .int .i64 v, .int .u64 (x : Nat)] w fun e w' => e = .returned (.int .i64 0) ∧ ∃ Λ', Ehx w' Λ' hb pa pk pc pn mb q W base (unL (base + p) (fldU V rs.length) bs) ks P m' N (dropL rs i) (fun j => if j = p then none else f j) ∧ Ehm Λ w Λ' w' := by
  have CW : Hid (Calls Tryz.prog 68 #[.pointer (some ⟨hb, 0, none⟩), .int .i64 v] w fun e w' => e = .returned (.int .i64 0) ∧ w = w') := by
    have q := ecw_any h v
    rw [show cwE W v = 0 from if_pos hv] at q
    exact q
  have GT : Hid (Calls Tryz.prog 92 #[.pointer (some ⟨pn, 0, none⟩), .int .u64 (x : Nat)] w fun e w' => e = .returned (.tuple #[.int .i64 (k : Nat), .int .i64 p, .int .i64 0]) ∧ ∃ n, w' = w.drewN n) := by
    have q := enget_ok h x i lv.hx lv.hi
    rw [lv.hk, lv.hp] at q
    exact q
  obtain ⟨bs', hbs'⟩ : ∃ bs', unL (base + p) (fldU V rs.length) bs = bs' := ⟨_, rfl⟩
  have hp2 := lv.hp2
  have UN : Hid (∀ (w : World) (Λ : Nat → Nat), Ehx w Λ hb pa pk pc pn mb q W base bs ks P m N rs f → Calls Tryz.prog 93 #[.pointer (some ⟨hb, 0, none⟩), .int .i64 p] w fun e w' => (∃ v, e = .returned v) ∧ ∃ Λ', Ehx w' Λ' hb pa pk pc pn mb q W base bs' ks P m N rs f ∧ Ehm Λ w Λ' w') := fun w Λ h => by
    have q := eunlink_any h V hVr hVk p hp2 hF hBl hK hP hL
    rw [hbs'] at q
    exact q
  have GV : Hid (∀ (w : World) (Λ : Nat → Nat) (f : Int → Option Nat), Ehx w Λ hb pa pk pc pn mb q W base bs' ks P m N rs f → Calls Tryz.prog 94 #[.pointer (some ⟨pc, 0, none⟩), .int .i64 v, .int .i64 p] w fun e w' => e = .returned (.int .i64 (r : Nat)) ∧ ∃ Λ', Ehx w' Λ' hb pa pk pc pn mb q W base bs' ks P m' N rs f ∧ Ehm Λ w Λ' w') := fun w Λ f h => egive_any h ho v p (by omega) r m' hT
  have DR : Hid (∀ (w : World) (Λ : Nat → Nat) (f : Int → Option Nat), Ehx w Λ hb pa pk pc pn mb q W base bs' ks P m' N rs f → Calls Tryz.prog 95 #[.pointer (some ⟨pn, 0, none⟩), .int .u64 (x : Nat)] w fun e w' => e = .returned (.int .i64 0) ∧ ∃ Λ', Ehx w' Λ' hb pa pk pc pn mb q W base bs' ks P m' N (dropL rs i) f ∧ Ehm Λ w Λ' w') := fun w Λ f h => edrop_ok h x i lv.hx lv.hi
  have H : Hid (Ehx w Λ hb pa pk pc pn mb q W base bs ks P m N rs f) := h
  obtain ⟨_, _, _, _, c4, _⟩ := h.cells
  rw [hbs']
  clear h hv ho lv hVr hVk hF hBl hK hP hL hT hbs'
  go_enter Tryz.func36, Tryz.ntmps36
  go_wp2_with fail
  refine Calls.mono CW.out ?_
  rintro e w' ⟨rfl, rfl⟩
  go_wp2_with fail
  refine Calls.mono GT.out ?_
  rintro e w' ⟨rfl, n, rfl⟩
  have H1 : Hid (Ehx (w.drewN n) Λ hb pa pk pc pn mb q W base bs ks P m N rs f) := H.out.drewN n
  go_wp2_with fail
  refine Calls.mono (UN.out _ _ H1.out) ?_
  rintro e w2 ⟨⟨v2, rfl⟩, Λ2, h2, m2⟩
  have M2 : Hid (Ehm Λ w Λ2 w2) := ehm_drewN m2
  obtain ⟨_, _, _, _, _, d5⟩ := h2.cells
  obtain ⟨hM, hG⟩ := h2.wh
  obtain ⟨w3, run3, hM3, on3⟩ := hM.drop (i := p) (by omega) 0
  obtain ⟨h3, m3⟩ := hG w3 _ _ hM3 on3
  have H3 : Hid (Ehx w3 (lab Λ2 w2.heap.size 6) hb pa pk pc pn mb q W base bs' ks P m N rs (fun j => if j = p then none else f j)) := h3
  have M3 : Hid (Ehm Λ w (lab Λ2 w2.heap.size 6) w3) := M2.out.trans m3
  obtain ⟨_, _, _, d3, _, _⟩ := h3.cells
  clear hM hG hM3 on3 h3 m3 h2 m2 c4
  go_wp2_with fail
  refine Calls.mono (GV.out _ _ _ H3.out) ?_
  rintro e w4 ⟨rfl, Λ4, h4, m4⟩
  have H4 : Hid (Ehx w4 Λ4 hb pa pk pc pn mb q W base bs' ks P m' N rs (fun j => if j = p then none else f j)) := h4
  have M4 : Hid (Ehm Λ w Λ4 w4) := M3.out.trans m4
  obtain ⟨_, _, _, _, g4, _⟩ := h4.cells
  clear h4 m4 d3 d5 run3
  go_wp2_with fail
  refine Calls.mono (DR.out _ _ _ H4.out) ?_
  rintro e w5 ⟨rfl, Λ5, h5, m5⟩
  have H5 : Hid (Ehx w5 Λ5 hb pa pk pc pn mb q W base bs' ks P m' N (dropL rs i) (fun j => if j = p then none else f j)) := h5
  have M5 : Hid (Ehm Λ w Λ5 w5) := M4.out.trans m5
  clear h5 m5 g4
  go_wp2
  go_ret
  exact ⟨rfl, Λ5, H5.out, M5.out⟩
end
end Go.Proofs.YtgdjlopnhecmjaaGreatDoor

/- Layer 15: a heap without objects is built. -/
namespace Go.Proofs.YtgdjlopnhecmjaaGreatDoor
open Go.RowKit
set_option linter.unusedVariables false
set_option maxRecDepth 4000

theorem cells15 {w : World} {b : Nat} {x0 x1 x2 x3 x4 x5 : Value} {t : TypeId} (h : w.heap[b]? = some (.cells #[x0, x1, x2, x3, x4, x5] t (0, 0))) : w.cell? ⟨b, 0, none⟩ = some x0 ∧ w.cell? ⟨b, 1, none⟩ = some x1 ∧ w.cell? ⟨b, 2, none⟩ = some x2 ∧ w.cell? ⟨b, 3, none⟩ = some x3 ∧ w.cell? ⟨b, 4, none⟩ = some x4 ∧ w.cell? ⟨b, 5, none⟩ = some x5 :=
  ⟨cell_of_row _ _ 0 _ _ _ h, cell_of_row _ _ 1 _ _ _ h, cell_of_row _ _ 2 _ _ _ h, cell_of_row _ _ 3 _ _ _ h, cell_of_row _ _ 4 _ _ _ h, cell_of_row _ _ 5 _ _ _ h⟩
theorem write_zeros (n : Nat) : writeR (List.replicate n 0) 0 (List.replicate n 0) = List.replicate n 0 := by
  unfold writeR overR
  rw [if_pos (by unfold inR; simp)]
  simp
/-- What stands of a heap under way: the view's box, kinds, the map. -/
structure Hb1 (w : World) (wc : World) (n0 n1 Vb t mb : Nat) (vr : Obj) : Prop where
  z2 : 2 ≤ w.heap.size
  tab : Tabs wc
  low : Below w.heap.size w wc
  vb : wc.heap[Vb]? = some vr
  kd : EhK wc (fun k => n0 ≤ k ∧ k < n1) t []
  mp : EhW wc (fun k => k = mb) mb 0 (fun _ => none)
theorem Hb1.below {w wc wd : World} {n0 n1 Vb t mb : Nat} {vr : Obj} (h : Hb1 w wc n0 n1 Vb t mb vr) (b : Below wc.heap.size wc wd) : Hb1 w wd n0 n1 Vb t mb vr := by
  have ht : Tu (fun _ => False) wc wd := Tu.ofBelow b
  exact ⟨h.z2, h.tab.tu ht id id, h.low.trans (b.mono h.low.size), ht.block _ _ h.vb id, h.kd.stay ht (fun _ _ => id), h.mp.stay ht (fun _ _ => id)⟩
theorem Hb1.turn {w wc wd : World} {n0 n1 Vb t mb : Nat} {vr : Obj} (h : Hb1 w wc n0 n1 Vb t mb vr) (z : Nat) (ht : Tu (fun k => k = z) wc wd) (h1 : w.heap.size ≤ z) (h2 : z ≠ Vb) (h3 : ¬ (n0 ≤ z ∧ z < n1)) (h4 : z ≠ mb) : Hb1 w wd n0 n1 Vb t mb vr := by
  have s0 := h.low.size
  have hz := h.z2
  refine ⟨h.z2, h.tab.tu ht (fun e => by omega) (fun e => by omega), h.low.trans ⟨ht.os, ht.tape, ht.output, ht.size, fun k hk => ?_⟩, ht.block _ _ h.vb (fun e => h2 e.symm), h.kd.stay ht (fun k hk e => h3 (e ▸ hk)), h.mp.stay ht (fun k hk e => h4 (e.symm.trans hk))⟩
  have hk2 : k < wc.heap.size := by omega
  rw [Array.getElem?_eq_getElem hk2]
  exact ht.block k _ (Array.getElem?_eq_getElem hk2) (fun e => by omega)
theorem tu_tg {g : Nat} {w w' : World} (h : Tg g w w') : Tu (fun k => k = g) w w' := ⟨h.os, h.tape, h.output, h.size, fun i o ho hn => by rw [h.block i (hlt ho) hn]; exact ho⟩
theorem tu_only {g : Nat} {w w' : World} (h : Only g w w') : Tu (fun k => k = g) w w' := Tu.ofOnly h rfl
theorem gd_nil {n : Nat} (h1 : 1 ≤ n) (h2 : n ≤ 4096) : Gd n ([] : List HRw) := by
  refine ⟨h1, h2, Nat.zero_le _, ?_, ?_⟩ <;> simp
end Go.Proofs.YtgdjlopnhecmjaaGreatDoor

/- Layer 15: a heap without objects is built, the walk. -/
namespace Go.Proofs.YtgdjlopnhecmjaaGreatDoor
open Go.RowKit
set_option linter.unusedVariables false
set_option maxRecDepth 4000

/-- A heap that was just made. -/
def HNew (w : World) (W : Nat) (base : Int) (P N : Nat) (e : Ending) (w' : World) : Prop :=
  ∃ Λ hb pa pk pc pn mb, e = .returned (.pointer (some ⟨hb, 0, none⟩)) ∧ Ehx w' Λ hb pa pk pc pn mb 0 W base (List.replicate (P * 256) 0) [] P [] N [] (fun _ => none) ∧ Below w.heap.size w w' ∧ (∀ k, k < w.heap.size → Λ k = 0) ∧ ∀ k, Λ k ≤ 6
set_option maxRecDepth 20000 in
set_option maxHeartbeats 8000000 in
theorem ebuild_new (w : World) (hT : Tabs w) (base : Int) (hg : goodR base) (P W N : Nat) (hp : 1 ≤ P ∧ P ≤ 4096) (hw : 1 ≤ W ∧ W ≤ 8) (hn : 1 ≤ N ∧ N ≤ 4096) (a : Option Addr) (c : Nat) (hB : IsB w a (List.replicate (P * 256) 0)) :
    Calls Tryz.prog 81 #[.agg #[.int .i64 base, .int .i64 (P : Nat), .slice none 0 0, .slice none 0 0, .slice none 0 0, .slice a (P * 256) c], .int .i64 (W : Nat), .int .i64 (N : Nat)] w (HNew w W base P N) := by
  have HG : Hid (goodR base) := hg
  have z2 : 2 ≤ w.heap.size := by have := hT.2.1; omega
  obtain ⟨vr, hvr⟩ : ∃ vr : Obj, Obj.cells #[.int .i64 base, .int .i64 (P : Nat), .slice none 0 0, .slice none 0 0, .slice none 0 0, .slice a (P * 256) c] 54 (0, 0) = vr := ⟨_, rfl⟩
  have HVR : Hid (Obj.cells #[.int .i64 base, .int .i64 (P : Nat), .slice none 0 0, .slice none 0 0, .slice none 0 0, .slice a (P * 256) c] 54 (0, 0) = vr) := hvr
  obtain ⟨Dv, hDv⟩ : ∃ D, w.alloc (.cells #[.int .i64 base, .int .i64 (P : Nat), .slice none 0 0, .slice none 0 0, .slice none 0 0, .slice a (P * 256) c] 54) = D := ⟨_, rfl⟩
  have HDV : Hid (w.alloc (.cells #[.int .i64 base, .int .i64 (P : Nat), .slice none 0 0, .slice none 0 0, .slice none 0 0, .slice a (P * 256) c] 54) = Dv) := hDv
  obtain ⟨Vb, hVb⟩ : ∃ Vb, w.heap.size = Vb := ⟨_, rfl⟩
  have HVB : Hid (w.heap.size = Vb) := hVb
  have rv : Dv.heap[Vb]? = some vr := by rw [← hDv, ← hVb, ← hvr]; exact Go.heap_alloc_new w _
  have bv : Below w.heap.size w Dv := by rw [← hDv]; exact (Below.refl _ w).alloc (Nat.le_refl _) _
  have RV : Hid (Dv.heap[Vb]? = some vr ∧ Below w.heap.size w Dv ∧ Tabs w ∧ 2 ≤ w.heap.size ∧ IsB w a (List.replicate (P * 256) 0) ∧ w.heap.size < Dv.heap.size) := ⟨rv, bv, hT, z2, hB, by rw [← hDv]; simp⟩
  have hpw : Hid ((1 ≤ P ∧ P ≤ 4096) ∧ (1 ≤ W ∧ W ≤ 8) ∧ (1 ≤ N ∧ N ≤ 4096)) := ⟨hp, hw, hn⟩
  clear hT hg hB hvr hDv hVb rv bv z2
  go_enter Tryz.func81, Tryz.ntmps81
  go_upto_region 1 with (fail)
  rw [HDV.out]
  try rw [HVB.out]
  go_wp2_with fail
  refine (tnew_any _).mono ?_
  rintro e w1 ⟨t, rfl, k1, b1⟩
  obtain ⟨mb, hmb⟩ : ∃ mb, w1.heap.size = mb := ⟨_, rfl⟩
  obtain ⟨D1, hD1⟩ : ∃ D, w1.alloc (.map #[] 0) = D := ⟨_, rfl⟩
  obtain ⟨hb, hhb⟩ : ∃ hb, D1.heap.size = hb := ⟨_, rfl⟩
  obtain ⟨D2, hD2⟩ : ∃ D, D1.alloc (.cells #[.int .i64 (W : Nat), .pointer none, .pointer (some ⟨t, 0, none⟩), .pointer none, .pointer none, .map (some mb)] 114) = D := ⟨_, rfl⟩
  have HMB : Hid (w1.heap.size = mb) := hmb
  have HHB : Hid (D1.heap.size = hb) := hhb
  have HD1 : Hid (w1.alloc (.map #[] 0) = D1) := hD1
  have HD2 : Hid (D1.alloc (.cells #[.int .i64 (W : Nat), .pointer none, .pointer (some ⟨t, 0, none⟩), .pointer none, .pointer none, .map (some mb)] 114) = D2) := hD2
  have e1 : D1.heap.size = w1.heap.size + 1 := by rw [← hD1]; simp
  have e2 : D2.heap.size = w1.heap.size + 2 := by rw [← hD2, World.size_alloc, e1]
  have SZ2 : Hid (hb = mb + 1 ∧ D2.heap.size = mb + 2 ∧ Dv.heap.size ≤ mb ∧ Vb + 1 ≤ Dv.heap.size) := ⟨by omega, by omega, by have := b1.size; omega, by have := RV.out.2.2.2.2.2; have := HVB.out; omega⟩
  have HHB2 : Hid (w1.heap.size + 1 = hb) := by show _ = _; omega
  have HHB3 : Hid (mb + 1 = hb) := by show _ = _; omega
  have q1 : Below w1.heap.size w1 D1 := by rw [← hD1]; exact (Below.refl _ w1).alloc (Nat.le_refl _) _
  have q2 : Below D1.heap.size D1 D2 := by rw [← hD2]; exact (Below.refl _ D1).alloc (Nat.le_refl _) _
  have X2 : Hid (D2.heap[hb]? = some (.cells #[.int .i64 (W : Nat), .pointer none, .pointer (some ⟨t, 0, none⟩), .pointer none, .pointer none, .map (some mb)] 114 (0, 0))) := by show _ = _; rw [← hD2, ← hhb]; exact Go.heap_alloc_new D1 _
  have H2 : Hid (Hb1 w D2 Dv.heap.size mb Vb t mb vr) := by
    have f1 : EhK w1 (fun k => Dv.heap.size ≤ k ∧ k < mb) t [] := ⟨Dv.heap.size, Dv.heap.size, none, 0, [], k1, rfl, b1.size, ⟨k1.ge, by rw [← hmb]; exact k1.lt⟩, fun g hg => (by cases hg), fun x hx => (by cases hx)⟩
    have f2 : EhW D1 (fun k => k = mb) mb 0 (fun _ => none) := ⟨by rw [← hD1, ← hmb]; exact MapH.made w1, rfl⟩
    have t0 : Tu (fun _ => False) w D2 := (((Tu.ofBelow RV.out.2.1).trans (Tu.ofBelow b1)).trans (Tu.ofBelow q1)).trans (Tu.ofBelow q2)
    have bb : Below Dv.heap.size Dv D2 := b1.trans ((q1.trans (q2.mono q1.size)).mono b1.size)
    exact ⟨RV.out.2.2.2.1, RV.out.2.2.1.tu t0 id id, RV.out.2.1.trans (bb.mono RV.out.2.1.size), by rw [bb.block _ (hlt RV.out.1)]; exact RV.out.1, (f1.stay (Tu.ofBelow (S := fun _ => False) q1) (fun _ _ => id)).stay (Tu.ofBelow (S := fun _ => False) q2) (fun _ _ => id), f2.stay (Tu.ofBelow (S := fun _ => False) q2) (fun _ _ => id)⟩
  have mm1 : ∀ w : World, (Instr.makeMap 112 none).run Tryz.prog w = .ok (.map (some w.heap.size)) (w.alloc (.map #[] 0)) := fun w => run_makeMap _ w
  obtain ⟨v0, v1, _, _, _, _⟩ := cells15 (by have := H2.out.vb; rw [← HVR.out] at this; exact this)
  clear hmb hD1 hhb hD2 e1 e2 q1 q2 k1 b1
  go_upto_region 2 with (fail)
  try rw [HMB.out]
  rw [HD1.out]
  rw [HD2.out]
  try rw [HHB.out]
  try rw [HHB2.out]
  try rw [HHB3.out]
  obtain ⟨g, hgg⟩ : ∃ g, D2.heap.size = g := ⟨_, rfl⟩
  have HGG : Hid (D2.heap.size = g) := hgg
  clear hgg
  go_wp2_with fail
  refine (znew_any base P D2 hpw.out.1.1 hpw.out.1.2 HG.out).mono ?_
  rintro e w3 ⟨rfl, a3, b3, s3⟩
  rw [HGG.out] at a3 s3 ⊢
  have A3 : Hid (IsA w3 (g + 1) g base (List.replicate (P * 256) 0)) := a3
  have H3 : Hid (Hb1 w w3 Dv.heap.size mb Vb t mb vr) := H2.out.below b3
  have X3 : Hid (w3.heap[hb]? = some (.cells #[.int .i64 (W : Nat), .pointer none, .pointer (some ⟨t, 0, none⟩), .pointer none, .pointer none, .map (some mb)] 114 (0, 0))) := by show _ = _; rw [b3.block _ (hlt X2.out)]; exact X2.out
  have SZ3 : Hid (w3.heap.size = g + 2 ∧ g = mb + 2) := ⟨s3, by have := SZ2.out.2.1; have := HGG.out; omega⟩
  have x1 : w3.cell? ⟨hb, 1, none⟩ = some (.pointer none) := (cells15 X3.out).2.1
  have z1 : w3.frozen? ⟨hb, 1, none⟩ = false := frozen_of_row w3 hb 1 _ _ X3.out
  obtain ⟨w4, hw4⟩ : ∃ w4, w3.setCell ⟨hb, 1, none⟩ (.pointer (some ⟨g + 1, 0, none⟩)) = w4 := ⟨_, rfl⟩
  have HW4 : Hid (w3.setCell ⟨hb, 1, none⟩ (.pointer (some ⟨g + 1, 0, none⟩)) = w4) := hw4
  have O4 : Only hb w3 w4 := by rw [← hw4]; exact Only.set hb 1 _ w3
  have X4 : Hid (w4.heap[hb]? = some (.cells #[.int .i64 (W : Nat), .pointer (some ⟨g + 1, 0, none⟩), .pointer (some ⟨t, 0, none⟩), .pointer none, .pointer none, .map (some mb)] 114 (0, 0))) := by
    show _ = _
    rw [← hw4, heap_setCell_same w3 hb 1 _ _ _ X3.out]; rfl
  have H4 : Hid (Hb1 w w4 Dv.heap.size mb Vb t mb vr) := H3.out.turn hb (tu_only O4) (by have := SZ2.out; have := HVB.out; omega) (by have := SZ2.out; omega) (by have := SZ2.out; omega) (by have := SZ2.out; omega)
  have A4 : Hid (IsA w4 (g + 1) g base (List.replicate (P * 256) 0)) := by
    obtain ⟨gg, q, _, _⟩ := EhA.stay (S := fun k => k = g + 1 ∨ k = g) ⟨g, A3.out, .inl rfl, .inr rfl⟩ (tu_only O4) (fun k hk e => by have := SZ2.out; have := SZ3.out; omega)
    have eg : gg = g := by
      have e := q.box.symm.trans ((O4.block (g + 1) (by have := SZ2.out; have := SZ3.out; omega)).trans A3.out.box)
      simp at e
      exact e
    rw [eg] at q
    exact q
  have SZ4 : Hid (w4.heap.size = w3.heap.size) := O4.size
  obtain ⟨y0, _, _, _, _, y5⟩ := cells15 (by have := H4.out.vb; rw [← HVR.out] at this; exact this)
  obtain ⟨_, u1, u2, _, _, _⟩ := cells15 X4.out
  have B4 : Hid (IsB w4 a (List.replicate (P * 256) 0)) := by
    have q := RV.out.2.2.2.2.1
    exact q.keep H4.out.low
  clear a3 b3 s3 O4 hw4 v0 v1
  go_upto_region 3 with (fail)
  rw [HW4.out]
  clear x1 z1
  have A4' := A4.out
  have WRT : Hid (∀ w : World, IsA w (g + 1) g base (List.replicate (P * 256) 0) → IsB w a (List.replicate (P * 256) 0) → Calls Tryz.prog 144 #[.pointer (some ⟨g + 1, 0, none⟩), .int .i64 base, .slice a (P * 256) c] w fun e w' => (∃ E, e = .returned (.int .i64 E)) ∧ IsA w' (g + 1) g base (List.replicate (P * 256) 0) ∧ Tg g w w') := fun w hA hB => by
    have q := write_any (g + 1) g base base (List.replicate (P * 256) 0) (List.replicate (P * 256) 0) a (P * 256) c w hA (by have := hA.lo; have := hA.hi; unfold Fits; omega) (by simp) hB (by have := hpw.out.1; unfold maxLen; omega)
    rw [show base - base = 0 by omega, write_zeros] at q
    exact q.mono (fun e w' ⟨e1, e2, e3⟩ => ⟨⟨_, e1⟩, e2, e3⟩)
  clear A4'
  have NXT : Hid (∀ w5 : World, Tg g w4 w5 → Hb1 w w5 Dv.heap.size mb Vb t mb vr ∧ w5.heap[hb]? = some (.cells #[.int .i64 (W : Nat), .pointer (some ⟨g + 1, 0, none⟩), .pointer (some ⟨t, 0, none⟩), .pointer none, .pointer none, .map (some mb)] 114 (0, 0))) := fun w5 t5 =>
    ⟨H4.out.turn g (tu_tg t5) (by have := SZ2.out; have := SZ3.out; have := HVB.out; omega) (by have := SZ2.out; have := SZ3.out; omega) (by have := SZ2.out; have := SZ3.out; omega) (by have := SZ3.out; omega), by rw [t5.block hb (hlt X4.out) (by have := SZ2.out; have := SZ3.out; omega)]; exact X4.out⟩
  go_cut [] from 31 to 39 (fun wx => IsA wx (g + 1) g base (List.replicate (P * 256) 0) ∧ Tg g w4 wx)
  case first =>
    go_region_held3 (fun w' => w'.cell? ⟨hb, 1, none⟩ = some (.pointer (some ⟨g + 1, 0, none⟩)) ∧ w'.cell? ⟨Vb, 0, none⟩ = some (.int .i64 base) ∧ w'.cell? ⟨Vb, 5, none⟩ = some (.slice a (P * 256) c)) (first | assumption | exact ⟨by assumption, by assumption, by assumption⟩ | go_keep)
      ((go_at_call 144; refine Calls.mono (WRT.out _ ⟨A4.out.box, A4.out.row, A4.out.all, A4.out.ne, A4.out.lo, A4.out.hi, A4.out.len⟩ B4.out.drew) ?_; rintro e w5 ⟨⟨E5, rfl⟩, a5, t5⟩; have T5 : Hid (IsA w5 (g + 1) g base (List.replicate (P * 256) 0) ∧ Tg g w4 w5) := ⟨a5, t5.os, t5.tape, t5.output, t5.size, t5.block⟩; obtain ⟨_, r1, _, _, _, _⟩ := cells15 (NXT.out w5 T5.out.2).2; obtain ⟨r2, _, _, _, _, r3⟩ := cells15 (by have := (NXT.out w5 T5.out.2).1.vb; rw [← HVR.out] at this; exact this); clear a5 t5))
    all_goals
      go_wp2
      go_meet
      exact T5.out
  case rest =>
    obtain ⟨a5, t5⟩ := hcut
    rename World => w5
    obtain ⟨h5, x5⟩ := NXT.out w5 t5
    have A5 : Hid (EhA w5 (fun k => k = g + 1 ∨ k = g) (g + 1) base (List.replicate (P * 256) 0)) := ⟨g, a5, .inl rfl, .inr rfl⟩
    have H5 : Hid (Hb1 w w5 Dv.heap.size mb Vb t mb vr) := h5
    have X5 : Hid (w5.heap[hb]? = some (.cells #[.int .i64 (W : Nat), .pointer (some ⟨g + 1, 0, none⟩), .pointer (some ⟨t, 0, none⟩), .pointer none, .pointer none, .map (some mb)] 114 (0, 0))) := x5
    have SZ5 : Hid (g + 2 ≤ w5.heap.size) := by have := t5.size; have := SZ3.out; have := SZ4.out; show _ ≤ _; omega
    obtain ⟨_, r1, r2, _, r4, _⟩ := cells15 (by have := h5.vb; rw [← HVR.out] at this; exact this)
    clear a5 t5 h5 x5 y0 y5 u1 u2 NXT WRT
    go_wp2
    go_loopw [43] (fun iv wr => iv = .int .i64 0 ∧ w5 = wr) (fun _ _ => 0)
    case atStart => exact ⟨rfl, rfl⟩
    case round =>
      obtain ⟨rfl, rfl⟩ := hrel
      go_wp2_with fail
      refine (kfrom_nil P W w5 H5.out.tab hpw.out.1 hpw.out.2.1).mono ?_
      rintro e w6 ⟨cb, rfl, ⟨L, hC, hL⟩, b6⟩
      obtain ⟨n5, hn5⟩ : ∃ n5, w5.heap.size = n5 := ⟨_, rfl⟩
      obtain ⟨n6, hn6⟩ : ∃ n6, w6.heap.size = n6 := ⟨_, rfl⟩
      have HN5 : Hid (w5.heap.size = n5) := hn5
      have HN6 : Hid (w6.heap.size = n6) := hn6
      have SZ6 : Hid (g + 2 ≤ n5 ∧ n5 ≤ n6) := ⟨by have := SZ5.out; omega, by have := b6.size; omega⟩
      have f6 : EhC w6 (fun k => n5 ≤ k ∧ k < n6) cb P W [] := ⟨L, hC, fun k hk hl => ⟨by
        by_cases e : k < w5.heap.size
        · exact absurd (hL k e) hl
        · omega, by omega⟩⟩
      have x6 : w6.heap[hb]? = some (.cells #[.int .i64 (W : Nat), .pointer (some ⟨g + 1, 0, none⟩), .pointer (some ⟨t, 0, none⟩), .pointer none, .pointer none, .map (some mb)] 114 (0, 0)) := by rw [b6.block _ (hlt X5.out)]; exact X5.out
      obtain ⟨w7, hw7⟩ : ∃ w7, w6.setCell ⟨hb, 3, none⟩ (.pointer (some ⟨cb, 0, none⟩)) = w7 := ⟨_, rfl⟩
      have HW7 : Hid (w6.setCell ⟨hb, 3, none⟩ (.pointer (some ⟨cb, 0, none⟩)) = w7) := hw7
      have O7 : Only hb w6 w7 := by rw [← hw7]; exact Only.set hb 3 _ w6
      have X7 : Hid (w7.heap[hb]? = some (.cells #[.int .i64 (W : Nat), .pointer (some ⟨g + 1, 0, none⟩), .pointer (some ⟨t, 0, none⟩), .pointer (some ⟨cb, 0, none⟩), .pointer none, .map (some mb)] 114 (0, 0))) := by
        show _ = _
        rw [← hw7, heap_setCell_same w6 hb 3 _ _ _ x6]; rfl
      have u7 := tu_only O7
      have H7 : Hid (Hb1 w w7 Dv.heap.size mb Vb t mb vr) := (H5.out.below b6).turn hb u7 (by have := SZ2.out; have := HVB.out; omega) (by have := SZ2.out; omega) (by have := SZ2.out; omega) (by have := SZ2.out; omega)
      have A7 : Hid (EhA w7 (fun k => k = g + 1 ∨ k = g) (g + 1) base (List.replicate (P * 256) 0)) := (A5.out.stay (Tu.ofBelow (S := fun _ => False) b6) (fun _ _ => id)).stay u7 (fun k hk e => by have := SZ2.out; have := SZ3.out; omega)
      have F7 : Hid (EhC w7 (fun k => n5 ≤ k ∧ k < n6) cb P W []) := f6.stay u7 (fun k hk e => by have := SZ2.out; have := SZ3.out; have := SZ6.out; omega) (fun e => by have := SZ2.out; have := HVB.out; have := H5.out.z2; omega) (fun e => by have := SZ2.out; have := HVB.out; have := H5.out.z2; omega)
      have SZ7 : Hid (w7.heap.size = n6) := by show _ = _; rw [O7.size]; exact hn6
      have x1 : w6.cell? ⟨hb, 3, none⟩ = some (.pointer none) := (cells15 x6).2.2.2.1
      have z1 : w6.frozen? ⟨hb, 3, none⟩ = false := frozen_of_row w6 hb 3 _ _ x6
      obtain ⟨_, _, _, p3, _, _⟩ := cells15 (by have := H7.out.vb; rw [← HVR.out] at this; exact this)
      clear hC hL b6 hn5 hn6 f6 x6 hw7 O7 u7 r1 r2 r4
      go_upto_region 10 with (fail)
      rw [HW7.out]
      clear x1 z1
      go_wp2_with fail
      refine (from_ok N none 0 [] w7 (.inl rfl) (fun _ => ⟨rfl, rfl⟩) (fun ad e => by cases e) (gd_nil hpw.out.2.2.1 hpw.out.2.2.2)).mono ?_
      rintro e w8 ⟨pn, a8, c8, rfl, k8, b8⟩
      obtain ⟨n8, hn8⟩ : ∃ n8, w8.heap.size = n8 := ⟨_, rfl⟩
      have HN8 : Hid (w8.heap.size = n8) := hn8
      have SZ8 : Hid (n6 ≤ n8) := by have := b8.size; have := SZ7.out; show _ ≤ _; omega
      have f8 : EhN w8 (fun k => n6 ≤ k ∧ k < n8) pn N [] := ⟨w7.heap.size, a8, c8, k8, ⟨by have := k8.bb; have := SZ7.out; omega, by have := k8.lt; omega⟩, fun g hg => by
        have q := k8.row.ge g hg
        have := SZ7.out
        omega⟩
      have x8 : w8.heap[hb]? = some (.cells #[.int .i64 (W : Nat), .pointer (some ⟨g + 1, 0, none⟩), .pointer (some ⟨t, 0, none⟩), .pointer (some ⟨cb, 0, none⟩), .pointer none, .map (some mb)] 114 (0, 0)) := by rw [b8.block _ (hlt X7.out)]; exact X7.out
      obtain ⟨w9, hw9⟩ : ∃ w9, w8.setCell ⟨hb, 4, none⟩ (.pointer (some ⟨pn, 0, none⟩)) = w9 := ⟨_, rfl⟩
      have HW9 : Hid (w8.setCell ⟨hb, 4, none⟩ (.pointer (some ⟨pn, 0, none⟩)) = w9) := hw9
      have O9 : Only hb w8 w9 := by rw [← hw9]; exact Only.set hb 4 _ w8
      have X9 : Hid (w9.heap[hb]? = some (.cells #[.int .i64 (W : Nat), .pointer (some ⟨g + 1, 0, none⟩), .pointer (some ⟨t, 0, none⟩), .pointer (some ⟨cb, 0, none⟩), .pointer (some ⟨pn, 0, none⟩), .map (some mb)] 114 (0, 0))) := by
        show _ = _
        rw [← hw9, heap_setCell_same w8 hb 4 _ _ _ x8]; rfl
      have u9 := tu_only O9
      have H9 : Hid (Hb1 w w9 Dv.heap.size mb Vb t mb vr) := (H7.out.below b8).turn hb u9 (by have := SZ2.out; have := HVB.out; omega) (by have := SZ2.out; omega) (by have := SZ2.out; omega) (by have := SZ2.out; omega)
      have o8 : Tu (fun _ => False) w7 w8 := Tu.ofBelow b8
      have A9 : Hid (EhA w9 (fun k => k = g + 1 ∨ k = g) (g + 1) base (List.replicate (P * 256) 0)) := (A7.out.stay o8 (fun _ _ => id)).stay u9 (fun k hk e => by have := SZ2.out; have := SZ3.out; omega)
      have F9 : Hid (EhC w9 (fun k => n5 ≤ k ∧ k < n6) cb P W []) := (F7.out.stay o8 (fun _ _ => id) id id).stay u9 (fun k hk e => by have := SZ2.out; have := SZ3.out; have := SZ6.out; omega) (fun e => by have := SZ2.out; have := HVB.out; have := H5.out.z2; omega) (fun e => by have := SZ2.out; have := HVB.out; have := H5.out.z2; omega)
      have k9 : EhN w9 (fun k => n6 ≤ k ∧ k < n8) pn N [] := f8.stay u9 (fun k hk e => by have := SZ2.out; have := SZ3.out; have := SZ6.out; omega)
      have N9 : Hid (EhN w9 (fun k => n6 ≤ k ∧ k < n8) pn N []) := k9
      have x1 : w8.cell? ⟨hb, 4, none⟩ = some (.pointer none) := (cells15 x8).2.2.2.2.1
      have z1 : w8.frozen? ⟨hb, 4, none⟩ = false := frozen_of_row w8 hb 4 _ _ x8
      have p4 : w9.cell? ⟨hb, 4, none⟩ = some (.pointer (some ⟨pn, 0, none⟩)) := (cells15 X9.out).2.2.2.2.1
      have LIV : Hid (Calls Tryz.prog 146 #[.pointer (some ⟨pn, 0, none⟩)] w9 fun e w' => ∃ a' c', e = .returned (.slice a' 0 c') ∧ Below w9.heap.size w9 w') := by
        obtain ⟨B, a', c', hC, _⟩ := k9
        exact (hlive_any B pn a' c' N [] w9 hC).mono (fun e w' ⟨a1, c1, e1, _, e2⟩ => ⟨a1, c1, e1, e2⟩)
      clear k8 b8 hn8 f8 x8 hw9 O9 u9 o8 k9 p3
      go_upto_region 11 with (fail)
      rw [HW9.out]
      clear x1 z1
      go_wp2_with fail
      refine Calls.mono LIV.out ?_
      rintro e wz ⟨az, cz, rfl, bz⟩
      have FIN : Hid (HNew w W base P N (.returned (.pointer (some ⟨hb, 0, none⟩))) wz) := by
        have hz := H9.out.below bz
        have o9 : Tu (fun _ => False) w9 wz := Tu.ofBelow bz
        obtain ⟨Λ, hΛ⟩ : ∃ Λ : Nat → Nat, Λ = fun k => if k < Dv.heap.size then 0 else if k < mb then 3 else if k = mb then 6 else if k = hb then 1 else if k < g + 2 then 2 else if k < n5 then 0 else if k < n6 then 4 else if k < n8 then 5 else 0 := ⟨_, rfl⟩
        have s1 := SZ2.out
        have s2 := SZ3.out
        have s3 := SZ6.out
        have s4 := SZ8.out
        have s5 := HVB.out
        have s6 := RV.out.2.2.2.1
        have zz : ∀ k, k < Dv.heap.size → Λ k = 0 := fun k hk => by rw [hΛ]; exact if_pos hk
        refine ⟨Λ, hb, g + 1, t, cb, pn, mb, rfl, ⟨hz.tab, zz 0 (by omega), zz 1 (by omega), ?_, ?_, ?_, ?_, ?_, ?_, ?_⟩, hz.low, fun k hk => zz k (by omega), fun k => ?_⟩
        · rw [bz.block _ (hlt X9.out)]; exact X9.out
        · rw [hΛ]; simp only; rw [if_neg (by omega), if_neg (by omega), if_neg (by omega), if_pos trivial]
        · exact (A9.out.stay o9 (fun _ _ => id)).mono (fun k _ hk => by rw [hΛ]; simp only; rw [if_neg (by omega), if_neg (by omega), if_neg (by omega), if_neg (by omega), if_pos (by omega)])
        · exact hz.kd.mono (fun k _ hk => by rw [hΛ]; simp only; rw [if_neg (by omega), if_pos (by omega)])
        · exact (F9.out.stay o9 (fun _ _ => id) id id).mono (fun k _ hk => by rw [hΛ]; simp only; rw [if_neg (by omega), if_neg (by omega), if_neg (by omega), if_neg (by omega), if_neg (by omega), if_neg (by omega), if_pos (by omega)])
        · exact (N9.out.stay o9 (fun _ _ => id)).mono (fun k _ hk => by rw [hΛ]; simp only; rw [if_neg (by omega), if_neg (by omega), if_neg (by omega), if_neg (by omega), if_neg (by omega), if_neg (by omega), if_neg (by omega), if_pos (by omega)])
        · exact hz.mp.mono (fun k _ hk => by rw [hΛ]; simp only; rw [if_neg (by omega), if_neg (by omega), if_pos (by omega)])
        · rw [hΛ]; simp only; repeat' split
          all_goals omega
      clear bz
      go_wp2
      go_loopw [82] (fun iv wr => iv = .int .i64 0 ∧ wz = wr) (fun _ _ => 0)
      case atStart => exact ⟨rfl, rfl⟩
      case round =>
        obtain ⟨rfl, rfl⟩ := hrel
        go_wp2
        go_ret
        exact FIN.out
end Go.Proofs.YtgdjlopnhecmjaaGreatDoor
