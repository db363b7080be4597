/- Layer 15: field, Kind, Read, Write, Get of a heap. -/
import Derived.Test.YtgdjlopnhecmjaaGreatDoorGzBE
namespace Go.Proofs.YtgdjlopnhecmjaaGreatDoor
open Go.RowKit
set_option linter.unusedVariables false
set_option maxRecDepth 4000

/-- An object that lives: its handle, its row, its kind, its place. -/
structure Liv (ks : List Kn) (rs : List HRw) (x i k : Nat) (p : Int) : Prop where
  hx : x < 18446744073709551616
  hi : LvAt rs x i
  hk : (gtL rs i).kind = (k : Int)
  hk2 : k < ks.length
  hp : (gtL rs i).pl = p
  hp2 : 0 ≤ p ∧ p ≤ 1048576
  hs : 1 ≤ (knD ks k).s ∧ (knD ks k).s ≤ 4096
  hl : (knD ks k).l.length ≤ 16
section
variable {w : World} {Λ : Nat → Nat} {hb pa pk pc pn mb q W : Nat} {base : Int} {bs : List Int} {ks : List Kn} {P : Nat} {m : List Sg} {N : Nat} {rs : List HRw} {f : Int → Option Nat}
theorem Ehx.kok (h : Ehx w Λ hb pa pk pc pn mb q W base bs ks P m N rs f) {k : Nat} (hk : k < ks.length) : AllI (knD ks k).l ∧ checkK (knD ks k).s (knD ks k).l = 0 := by
  obtain ⟨b0, lb, ar, cr, xs, hT, he, _⟩ := h.kd
  have hl' := kns_len he
  obtain ⟨e1, e2⟩ := kns_at he (k := k) (by omega)
  rw [e1, e2]
  exact ⟨hT.all _ (List.getElem_mem _), hT.right _ (List.getElem_mem _)⟩
set_option maxRecDepth 20000 in
set_option maxHeartbeats 4000000 in
/-- The address of a field, or that there is none. -/
theorem efield_any (h : Ehx w Λ hb pa pk pc pn mb q W base bs ks P m N rs f) (x i k : Nat) (p j : Int) (v : Liv ks rs x i k p) (hj : -9223372036854775808 ≤ j ∧ j ≤ 9223372036854775807) (fp : Int) (ok : Bool) (hf : fieldV (knD ks k).s (knD ks k).l j = (fp, ok)) (hfp : 0 ≤ fp ∧ fp ≤ 4096) :
    Calls Tryz.prog 96 #[.pointer (some ⟨hb, 0, none⟩), .int .u64 (x : Nat), .int .i64 j] w fun e w' => e = .returned (.tuple #[.int .i64 (if ok = true then base + p + fp else 0), .int .i64 (if ok = true then 0 else 2)]) ∧ Below w.heap.size w w' := by
  obtain ⟨g0, hA, _⟩ := h.ar
  have lo := hA.lo
  have hi' := hA.hi
  have AL : Hid (AllI (knD ks k).l) := (h.kok v.hk2).1
  obtain ⟨s, hs⟩ : ∃ s, (knD ks k).s = s := ⟨_, rfl⟩
  obtain ⟨l, hl⟩ : ∃ l, (knD ks k).l = l := ⟨_, rfl⟩
  have OB : Hid (Calls Tryz.prog 158 #[.pointer (some ⟨hb, 0, none⟩), .int .u64 (x : Nat)] w fun e w' => ∃ a' c', e = .returned (.tuple #[.agg #[.int .i64 s, .slice a' l.length c'], .int .i64 (base + p), .int .i64 0]) ∧ OwnsI w' w.heap.size a' l c' ∧ Below w.heap.size w w') := by
    have q := eobject_ok h x i k p v.hx v.hi v.hk v.hk2 v.hp v.hp2
    rw [hs, hl] at q
    exact q
  have hp2 := v.hp2
  have hll := v.hl
  rw [hl] at AL hll hf
  rw [hs] at hf
  have HF : Hid (fieldV s l j = (fp, ok)) := hf
  have w6 : IntKind.i64.wrap (base + p) = base + p := by rw [IntKind.wrap_i64]; omega
  have w5 : IntKind.i64.wrap (base + p + fp) = base + p + fp := by rw [IntKind.wrap_i64]; omega
  clear h hA hs hl hf v
  go_enter Tryz.func96, Tryz.ntmps96
  go_wp2_with fail
  refine Calls.mono OB.out ?_
  rintro e w1 ⟨a1, c1, rfl, o1, b1⟩
  obtain ⟨E, hE, rE, bE⟩ := kbox15 w1 s (.slice a1 l.length c1)
  have HE : Hid _ := hE
  have BE : Hid (Below w.heap.size w E) := b1.trans (bE.mono b1.size)
  have OE : Hid (IsI E a1 l) := (ownsI_isI AL.out o1).keep bE
  obtain ⟨k0, k1, _, _⟩ := cbx15 rE
  obtain ⟨ng, hng⟩ : ∃ ng, w1.heap.size = ng := ⟨_, rfl⟩
  rw [hng] at k0 k1
  have HNG : Hid (w1.heap.size = ng) := hng
  clear b1 bE rE hE o1 hng
  go_upto_region 2 with (fail)
  rw [HE.out]
  try rw [HNG.out]
  go_wp2_with fail
  refine (field_any s a1 c1 l j _ OE.out (by unfold maxLen; omega) hj).mono ?_
  rw [HF.out]
  rintro e w3 ⟨rfl, b3⟩
  have B3 : Hid (Below w.heap.size w w3) := BE.out.trans (b3.mono BE.out.size)
  clear b3
  cases ok
  · go_wp2
    go_ret2
    exact ⟨rfl, B3.out⟩
  · go_wp2
    go_ret2
    exact ⟨rfl, B3.out⟩
set_option maxHeartbeats 2000000 in
theorem ekind_nil (x : Nat) (w : World) : Calls Tryz.prog 38 #[.pointer none, .int .u64 (x : Nat)] w fun e w' => e = .returned (.tuple #[.int .i64 0, .int .i64 1]) ∧ w = w' := by
  go_enter Tryz.func38, Tryz.ntmps38
  go_wp2
  go_ret2
  exact ⟨rfl, rfl⟩
set_option maxHeartbeats 4000000 in
theorem eread_any (h : Ehx w Λ hb pa pk pc pn mb q W base bs ks P m N rs f) (x i k : Nat) (p at' n : Int) (v : Liv ks rs x i k p) (ha : -9223372036854775808 ≤ at' ∧ at' ≤ 9223372036854775807) (hn : -9223372036854775808 ≤ n ∧ n ≤ 9223372036854775807) :
    Calls Tryz.prog 48 #[.pointer (some ⟨hb, 0, none⟩), .int .u64 (x : Nat), .int .i64 at', .int .i64 n] w fun e w' =>
      (plE (knD ks k) at' n ≠ 0 → e = .returned (.tuple #[.slice none 0 0, .int .i64 (plE (knD ks k) at' n)]) ∧ Below w.heap.size w w') ∧
      (plE (knD ks k) at' n = 0 → ∃ a, e = .returned (.tuple #[.slice a (readR bs (p + at') n).length (readR bs (p + at') n).length, .int .i64 (errR bs.length (p + at') n)]) ∧ Got w.heap.size w' a (readR bs (p + at') n) ∧ Below w.heap.size w w') := by
  have H : Hid (Ehx w Λ hb pa pk pc pn mb q W base bs ks P m N rs f) := h
  obtain ⟨g0, hA, _⟩ := h.ar
  have lo := hA.lo
  have hi' := hA.hi
  have hp2 := v.hp2
  have hs := v.hs
  obtain ⟨R, hR⟩ : ∃ R, plE (knD ks k) at' n = R := ⟨_, rfl⟩
  have PL : Hid (Calls Tryz.prog 110 #[.pointer (some ⟨hb, 0, none⟩), .int .u64 (x : Nat), .int .i64 at', .int .i64 n] w fun e w' => e = .returned (.tuple #[.int .i64 (if R = 0 then base + p + at' else 0), .int .i64 R]) ∧ Below w.heap.size w w') := by
    have q := eplain_any h x i k p at' n v.hx v.hi v.hk v.hk2 v.hp v.hp2 v.hs v.hl ha hn
    rw [hR] at q
    exact q
  have RB : R = 0 → 0 ≤ at' ∧ at' ≤ 4096 := fun e => by
    rw [e] at hR
    unfold plE at hR
    by_cases c : at' < 0 ∨ n < 0 ∨ (knD ks k).s - at' < n
    · rw [if_pos c] at hR; omega
    · omega
  rw [hR]
  clear h hA hR v hs
  by_cases hz : R = 0
  · obtain ⟨a0, a1⟩ := RB hz
    subst hz
    rw [if_pos rfl] at PL
    refine Calls.mono (R := fun e w' => ∃ a, e = .returned (.tuple #[.slice a (readR bs (p + at') n).length (readR bs (p + at') n).length, .int .i64 (errR bs.length (p + at') n)]) ∧ Got w.heap.size w' a (readR bs (p + at') n) ∧ Below w.heap.size w w') ?_ (fun e w' q => ⟨fun c => absurd rfl c, fun _ => q⟩)
    clear RB
    obtain ⟨LR, hLR⟩ : ∃ L, readR bs (p + at') n = L := ⟨_, rfl⟩
    obtain ⟨ER, hER⟩ : ∃ E, errR bs.length (p + at') n = E := ⟨_, rfl⟩
    rw [hLR, hER]
    have RD : Hid (∀ (w : World) (Λ : Nat → Nat), Ehx w Λ hb pa pk pc pn mb q W base bs ks P m N rs f → Calls Tryz.prog 111 #[.pointer (some ⟨pa, 0, none⟩), .int .i64 (base + p + at'), .int .i64 n] w fun e w' => ∃ a, e = .returned (.tuple #[.slice a LR.length LR.length, .int .i64 ER]) ∧ Got w.heap.size w' a LR ∧ Below w.heap.size w w') := fun w Λ h => by
      obtain ⟨g, hA, _⟩ := h.ar
      have q := read_any pa g base (base + p + at') n bs w hA (by unfold Fits; omega) (by unfold Fits; omega)
      rw [show base + p + at' - base = p + at' by omega, hLR, hER] at q
      exact q
    clear hLR hER
    go_enter Tryz.func48, Tryz.ntmps48
    go_wp2_with fail
    refine Calls.mono PL.out ?_
    rintro e w1 ⟨rfl, b1⟩
    obtain ⟨h1, _⟩ := H.out.keep b1
    have H1 : Hid (Ehx w1 (lab Λ w.heap.size 0) hb pa pk pc pn mb q W base bs ks P m N rs f) := h1
    obtain ⟨_, c1, _, _, _, _⟩ := h1.cells
    have B1 : Hid (Below w.heap.size w w1) := b1
    clear h1 b1
    go_wp2_with fail
    refine Calls.mono (RD.out _ _ H1.out) ?_
    rintro e w2 ⟨a2, rfl, g2, b2⟩
    go_wp2
    go_ret2
    exact ⟨a2, rfl, g2.mono B1.out.size, B1.out.trans (b2.mono B1.out.size)⟩
  · refine Calls.mono (R := fun e w' => e = .returned (.tuple #[.slice none 0 0, .int .i64 R]) ∧ Below w.heap.size w w') ?_ (fun e w' q => ⟨fun _ => q, fun c => absurd c hz⟩)
    rw [if_neg hz] at PL
    have e1 : (R != 0) = true := by rw [bne_iff_ne]; exact hz
    clear RB hz
    go_enter Tryz.func48, Tryz.ntmps48
    go_wp2_with fail
    refine Calls.mono PL.out ?_
    rintro e w1 ⟨rfl, b1⟩
    go_wp2
    go_ret2
    exact ⟨rfl, b1⟩
end
end Go.Proofs.YtgdjlopnhecmjaaGreatDoor

/- Layer 15: Write, Get, Set of a heap. -/
namespace Go.Proofs.YtgdjlopnhecmjaaGreatDoor
open Go.RowKit
set_option linter.unusedVariables false
set_option maxRecDepth 4000

section
variable {w : World} {Λ : Nat → Nat} {hb pa pk pc pn mb q W : Nat} {base : Int} {bs : List Int} {ks : List Kn} {P : Nat} {m : List Sg} {N : Nat} {rs : List HRw} {f : Int → Option Nat}
set_option maxHeartbeats 4000000 in
theorem eget_any (h : Ehx w Λ hb pa pk pc pn mb q W base bs ks P m N rs f) (x i k : Nat) (p j fp : Int) (v : Liv ks rs x i k p) (hj : -9223372036854775808 ≤ j ∧ j ≤ 9223372036854775807) (hf : fieldV (knD ks k).s (knD ks k).l j = (fp, true)) (hfp : 0 ≤ fp ∧ fp ≤ 4096) (V : Int) (hV : wordR bs (p + fp) = V) (hV2 : 0 ≤ V ∧ V ≤ 18446744073709551615) (E : Int) (hE : errR bs.length (p + fp) 8 = E) (R : Nat) (hR : (f (IntKind.i64.wrap (IntKind.i64.wrap V - base))).getD 0 = R) :
    Calls Tryz.prog 37 #[.pointer (some ⟨hb, 0, none⟩), .int .u64 (x : Nat), .int .i64 j] w fun e w' => e = .returned (.tuple #[.int .u64 (R : Nat), .int .i64 E]) ∧ Below w.heap.size w w' := by
  have H : Hid (Ehx w Λ hb pa pk pc pn mb q W base bs ks P m N rs f) := h
  obtain ⟨g0, hA, _⟩ := h.ar
  have lo := hA.lo
  have hi' := hA.hi
  have hp2 := v.hp2
  have FD : Hid (Calls Tryz.prog 96 #[.pointer (some ⟨hb, 0, none⟩), .int .u64 (x : Nat), .int .i64 j] w fun e w' => e = .returned (.tuple #[.int .i64 (base + p + fp), .int .i64 0]) ∧ Below w.heap.size w w') := efield_any h x i k p j v hj fp true hf hfp
  have WD : Hid (∀ (w : World) (Λ : Nat → Nat), Ehx w Λ hb pa pk pc pn mb q W base bs ks P m N rs f → Calls Tryz.prog 97 #[.pointer (some ⟨pa, 0, none⟩), .int .i64 (base + p + fp)] w fun e w' => e = .returned (.tuple #[.int .u64 V, .int .i64 E]) ∧ w = w') := fun w Λ h => by
    obtain ⟨g, hA, hG⟩ := h.ar
    have q := zword_any pa g base (base + p + fp) bs w hA (by unfold Fits; omega)
    rw [show base + p + fp - base = p + fp by omega, hV, hE] at q
    exact q
  have LD : Hid (∀ (w : World) (Λ : Nat → Nat), Ehx w Λ hb pa pk pc pn mb q W base bs ks P m N rs f → Calls Tryz.prog 98 #[.pointer (some ⟨hb, 0, none⟩), .int .u64 V] w fun e w' => e = .returned (.int .u64 (R : Nat)) ∧ ∃ n, w' = w.drewN n) := fun w Λ h => by
    have q := elead_any h V hV2
    rw [hR] at q
    exact q
  clear h hA hf v hV hE hR
  go_enter Tryz.func37, Tryz.ntmps37
  go_wp2_with fail
  refine Calls.mono FD.out ?_
  rintro e w1 ⟨rfl, b1⟩
  obtain ⟨h1, _⟩ := H.out.keep b1
  have H1 : Hid (Ehx w1 (lab Λ w.heap.size 0) hb pa pk pc pn mb q W base bs ks P m N rs f) := h1
  obtain ⟨_, c1, _, _, _, _⟩ := h1.cells
  have B1 : Hid (Below w.heap.size w w1) := b1
  clear h1 b1
  go_wp2_with fail
  refine Calls.mono (WD.out _ _ H1.out) ?_
  rintro e w2 ⟨rfl, rfl⟩
  go_wp2_with fail
  refine Calls.mono (LD.out _ _ H1.out) ?_
  rintro e w3 ⟨rfl, n, rfl⟩
  go_wp2
  go_ret2
  exact ⟨rfl, ⟨B1.out.os, B1.out.tape, B1.out.output, B1.out.size, B1.out.block⟩⟩
/-- Put of a word, at a heap. -/
theorem eput_any (h : Ehx w Λ hb pa pk pc pn mb q W base bs ks P m N rs f) (o V : Int) (ho : 0 ≤ o ∧ o ≤ 2097152) (hV : 0 ≤ V ∧ V ≤ 18446744073709551615) (E : Int) (hE : errR bs.length o 8 = E) :
    Calls Tryz.prog 109 #[.pointer (some ⟨pa, 0, none⟩), .int .i64 (base + o), .int .u64 V] w fun e w' => e = .returned (.int .i64 E) ∧ ∃ Λ', Ehx w' Λ' hb pa pk pc pn mb q W base (writeR bs o (putL 8 V)) ks P m N rs f ∧ Ehm Λ w Λ' w' := by
  obtain ⟨g, hA, hG⟩ := h.ar
  have lo := hA.lo
  have hi' := hA.hi
  have q := putw_any pa g base (base + o) V bs w hA (by unfold Fits; omega) hV.1 hV.2
  rw [show base + o - base = o by omega, hE] at q
  exact q.mono (fun e w' ⟨e1, e2, e3⟩ => ⟨e1, _, hG w' _ e2 e3⟩)
end
end Go.Proofs.YtgdjlopnhecmjaaGreatDoor

/- Layer 15: Set to another object, Define, Flush, Scavenge of a heap. -/
namespace Go.Proofs.YtgdjlopnhecmjaaGreatDoor
open Go.RowKit
set_option linter.unusedVariables false
set_option maxRecDepth 4000

theorem ehm_drew {Λ Λ' : Nat → Nat} {w w' : World} (h : Ehm Λ w.drew Λ' w') : Ehm Λ w Λ' w' := ⟨h.ext, ⟨h.tu.os, h.tu.tape, h.tu.output, h.tu.size, h.tu.block⟩, h.new⟩
theorem ehm_drewN {Λ Λ' : Nat → Nat} {w w' : World} {n : Nat} (h : Ehm Λ (w.drewN n) Λ' w') : Ehm Λ w Λ' w' := ⟨h.ext, ⟨h.tu.os, h.tu.tape, h.tu.output, h.tu.size, h.tu.block⟩, h.new⟩
section
variable {w : World} {Λ : Nat → Nat} {hb pa pk pc pn mb q W : Nat} {base : Int} {bs : List Int} {ks : List Kn} {P : Nat} {m : List Sg} {N : Nat} {rs : List HRw} {f : Int → Option Nat}
set_option maxRecDepth 20000 in
set_option maxHeartbeats 4000000 in
/-- A field is made to lead to an object. -/
theorem eset_any (h : Ehx w Λ hb pa pk pc pn mb q W base bs ks P m N rs f) (x y i i2 k k2 : Nat) (p p2 j fp : Int) (v : Liv ks rs x i k p) (v2 : Liv ks rs y i2 k2 p2) (hj : -9223372036854775808 ≤ j ∧ j ≤ 9223372036854775807) (hf : fieldV (knD ks k).s (knD ks k).l j = (fp, true)) (hfp : 0 ≤ fp ∧ fp ≤ 4096) (hy0 : y ≠ 0) (E : Int) (hE : errR bs.length (p + fp) 8 = E) :
    Calls Tryz.prog 47 #[.pointer (some ⟨hb, 0, none⟩), .int .u64 (x : Nat), .int .i64 j, .int .u64 (y : Nat)] w fun e w' => e = .returned (.int .i64 E) ∧ ∃ Λ', Ehx w' Λ' hb pa pk pc pn mb q W base (writeR bs (p + fp) (putL 8 (base + p2))) ks P m N rs f ∧ Ehm Λ w Λ' w' := by
  have H : Hid (Ehx w Λ hb pa pk pc pn mb q W base bs ks P m N rs f) := h
  obtain ⟨g0, hA, _⟩ := h.ar
  have lo := hA.lo
  have hi' := hA.hi
  have hp2 := v.hp2
  have hp3 := v2.hp2
  have y0 : (((y : Nat) : Int) == 0) = false := beq_eq_false_iff_ne.2 (by omega)
  have FD : Hid (Calls Tryz.prog 96 #[.pointer (some ⟨hb, 0, none⟩), .int .u64 (x : Nat), .int .i64 j] w fun e w' => e = .returned (.tuple #[.int .i64 (base + p + fp), .int .i64 0]) ∧ Below w.heap.size w w') := efield_any h x i k p j v hj fp true hf hfp
  have GT : Hid (∀ (w : World) (Λ : Nat → Nat), Ehx w Λ hb pa pk pc pn mb q W base bs ks P m N rs f → Calls Tryz.prog 92 #[.pointer (some ⟨pn, 0, none⟩), .int .u64 (y : Nat)] w fun e w' => e = .returned (.tuple #[.int .i64 (k2 : Nat), .int .i64 p2, .int .i64 0]) ∧ ∃ n, w' = w.drewN n) := fun w Λ h => by
    have q := enget_ok h y i2 v2.hx v2.hi
    rw [v2.hk, v2.hp] at q
    exact q
  have PT : Hid (∀ (w : World) (Λ : Nat → Nat), Ehx w Λ hb pa pk pc pn mb q W base bs ks P m N rs f → Calls Tryz.prog 109 #[.pointer (some ⟨pa, 0, none⟩), .int .i64 (base + p + fp), .int .u64 (base + p2)] w fun e w' => e = .returned (.int .i64 E) ∧ ∃ Λ', Ehx w' Λ' hb pa pk pc pn mb q W base (writeR bs (p + fp) (putL 8 (base + p2))) ks P m N rs f ∧ Ehm Λ w Λ' w') := fun w Λ h => by
    have q := eput_any h (p + fp) (base + p2) (by omega) (by omega) E hE
    rw [show base + (p + fp) = base + p + fp by omega] at q
    exact q
  have u1 : IntKind.u64.wrap (base + p2) = base + p2 := by rw [IntKind.wrap_u64]; omega
  clear h hf v v2 hE hA
  go_enter Tryz.func47, Tryz.ntmps47
  go_wp2_with fail
  refine Calls.mono FD.out ?_
  rintro e w1 ⟨rfl, b1⟩
  obtain ⟨h1, m1⟩ := H.out.keep b1
  have H1 : Hid (Ehx w1 (lab Λ w.heap.size 0) hb pa pk pc pn mb q W base bs ks P m N rs f) := h1
  have M1 : Hid (Ehm Λ w (lab Λ w.heap.size 0) w1) := m1
  obtain ⟨_, _, _, _, c4, _⟩ := h1.cells
  clear h1 b1 m1
  go_wp2_with fail
  refine Calls.mono (GT.out _ _ H1.out) ?_
  rintro e w2 ⟨rfl, n, rfl⟩
  have H2 : Hid (Ehx (w1.drewN n) (lab Λ w.heap.size 0) hb pa pk pc pn mb q W base bs ks P m N rs f) := H1.out.drewN n
  obtain ⟨_, d1, _, _, _, _⟩ := H2.out.cells
  obtain ⟨X, hX⟩ : ∃ X, w1.drewN n = X := ⟨_, rfl⟩
  rw [hX] at H2 d1 ⊢
  have M2 : Hid (Ehm Λ w (lab Λ w.heap.size 0) X) := by show Ehm _ _ _ _; rw [← hX]; exact M1.out.drewN n
  clear c4 hX
  go_upto_region 9 with (fail)
  go_region_held3 (fun w' => w'.cell? ⟨hb, 1, none⟩ = some (.pointer (some ⟨pa, 0, none⟩))) (first | assumption | go_keep)
    (first
      | (go_at_call 59; refine (eaddr_any H2.out.drew p2 (by omega)).mono ?_; rintro e wS ⟨rfl, rfl⟩)
      | (go_at_call 109; refine Calls.mono (PT.out _ _ H2.out.drew) ?_; rintro e w4 ⟨rfl, Λ4, h4, m4⟩; have H4 : Hid (Ehx w4 Λ4 hb pa pk pc pn mb q W base (writeR bs (p + fp) (putL 8 (base + p2))) ks P m N rs f) := h4; have M4 : Hid (Ehm Λ w Λ4 w4) := M2.out.trans (ehm_drew m4); obtain ⟨_, z1, _, _, _, _⟩ := h4.cells; clear h4 m4))
  all_goals
    go_wp2
    go_ret
    exact ⟨rfl, Λ4, H4.out, M4.out⟩
end
end Go.Proofs.YtgdjlopnhecmjaaGreatDoor

/- Layer 15: Define, Flush, Scavenge of a heap; the calls of a heap that isn't there. -/
namespace Go.Proofs.YtgdjlopnhecmjaaGreatDoor
open Go.RowKit
set_option linter.unusedVariables false
set_option maxRecDepth 4000

/-- What Define answers. -/
def defE (ks : List Kn) (s : Int) (l : List Int) : Int := if checkK s l = 0 then (if ks.length < 64 then 0 else 7) else checkK s l
def defV (ks : List Kn) (s : Int) (l : List Int) : Int := if defE ks s l = 0 then (ks.length : Int) else 0
def defK (ks : List Kn) (s : Int) (l : List Int) : List Kn := if defE ks s l = 0 then ks ++ [⟨s, l⟩] else ks
section
variable {w : World} {Λ : Nat → Nat} {hb pa pk pc pn mb q W : Nat} {base : Int} {bs : List Int} {ks : List Kn} {P : Nat} {m : List Sg} {N : Nat} {rs : List HRw} {f : Int → Option Nat}
theorem eadd_any (h : Ehx w Λ hb pa pk pc pn mb q W base bs ks P m N rs f) (s : Int) (a : Option Addr) (c : Nat) (l : List Int) (hI : IsI w a l) (hnil : a = none → l = [] ∧ c = 0) (hm : l.length ≤ maxLen) :
    Calls Tryz.prog 108 #[.pointer (some ⟨pk, 0, none⟩), .agg #[.int .i64 s, .slice a l.length c]] w fun e w' => e = .returned (.tuple #[.int .i64 (defV ks s l), .int .i64 (defE ks s l)]) ∧ ∃ Λ', Ehx w' Λ' hb pa pk pc pn mb q W base bs (defK ks s l) P m N rs f ∧ Ehm Λ w Λ' w' := by
  obtain ⟨b0, lb, ar, cr, xs, hT, he, hb0, hlb, hG⟩ := h.kd
  have hl := kns_len he
  have h64 := hT.len
  by_cases hr : checkK s l = 0
  · by_cases hf : xs.length < 64
    · have e1 : defE ks s l = 0 := by unfold defE; rw [if_pos hr, if_pos (by omega)]
      have e2 : defV ks s l = (xs.length : Nat) := by unfold defV; rw [if_pos e1, hl]
      have e3 : defK ks s l = ks ++ [⟨s, l⟩] := by unfold defK; rw [if_pos e1]
      rw [e1, e2, e3]
      refine (add_ok b0 lb pk ar cr xs s a c l w hT hI hnil hr hf hb0 hlb).mono ?_
      rintro e w' ⟨rfl, ar', cr', a', c', t1, t2, t3, t4⟩
      exact ⟨rfl, _, hG w' ar' cr' s a' c' l t1 t2 t3 t4⟩
    · have e1 : defE ks s l = 7 := by unfold defE; rw [if_pos hr, if_neg (by omega)]
      have e2 : defV ks s l = 0 := by unfold defV; rw [if_neg (by omega)]
      have e3 : defK ks s l = ks := by unfold defK; rw [if_neg (by omega)]
      rw [e1, e2, e3]
      refine (add_full b0 lb pk ar cr xs s a c l w hT hI hm hr (by omega)).mono ?_
      rintro e w' ⟨rfl, b⟩
      exact ⟨rfl, _, h.keep b⟩
  · have e1 : defE ks s l = checkK s l := by unfold defE; rw [if_neg hr]
    have e2 : defV ks s l = 0 := by unfold defV; rw [if_neg (by omega)]
    have e3 : defK ks s l = ks := by unfold defK; rw [if_neg (by omega)]
    rw [e1, e2, e3]
    refine (add_bad b0 lb pk ar cr xs s a c l _ w hT hI hm rfl hr).mono ?_
    rintro e w' ⟨rfl, b⟩
    exact ⟨rfl, _, h.keep b⟩
set_option maxRecDepth 20000 in
set_option maxHeartbeats 4000000 in
theorem edefine_any (h : Ehx w Λ hb pa pk pc pn mb q W base bs ks P m N rs f) (s : Int) (a : Option Addr) (c : Nat) (l : List Int) (hI : IsI w a l) (hnil : a = none → l = [] ∧ c = 0) (hm : l.length ≤ maxLen) :
    Calls Tryz.prog 46 #[.pointer (some ⟨hb, 0, none⟩), .agg #[.int .i64 s, .slice a l.length c]] w fun e w' => e = .returned (.tuple #[.int .i64 (defV ks s l), .int .i64 (defE ks s l)]) ∧ ∃ Λ', Ehx w' Λ' hb pa pk pc pn mb q W base bs (defK ks s l) P m N rs f ∧ Ehm Λ w Λ' w' := by
  obtain ⟨D, hD, rD, bD⟩ := kbox15 w s (.slice a l.length c)
  have HD : Hid (w.alloc (.cells #[.int .i64 s, .slice a l.length c] 103) = D) := hD
  obtain ⟨h1, m1⟩ := h.keep bD
  have M1 : Hid (Ehm Λ w (lab Λ w.heap.size 0) D) := m1
  obtain ⟨V, hV⟩ : ∃ V, defV ks s l = V := ⟨_, rfl⟩
  obtain ⟨E, hE⟩ : ∃ E, defE ks s l = E := ⟨_, rfl⟩
  obtain ⟨K, hK⟩ : ∃ K, defK ks s l = K := ⟨_, rfl⟩
  have AD : Hid (Calls Tryz.prog 108 #[.pointer (some ⟨pk, 0, none⟩), .agg #[.int .i64 s, .slice a l.length c]] D.drew fun e w' => e = .returned (.tuple #[.int .i64 V, .int .i64 E]) ∧ ∃ Λ', Ehx w' Λ' hb pa pk pc pn mb q W base bs K P m N rs f ∧ Ehm (lab Λ w.heap.size 0) D.drew Λ' w') := by
    have q := eadd_any h1.drew s a c l (IsI.drew (hI.keep bD)) hnil hm
    rw [hV, hE, hK] at q
    exact q
  rw [hV, hE, hK]
  obtain ⟨_, _, c2, _, _, _⟩ := h1.cells
  obtain ⟨k0, k1, _, _⟩ := cbx15 rD
  have HL : Hid (hb < D.heap.size ∧ w.heap.size < D.heap.size) := ⟨h1.lt, hlt rD⟩
  have RD : Hid (D.heap[w.heap.size]? = some (.cells #[.int .i64 s, .slice a l.length c] 103 (0, 0))) := rD
  have L0 : Hid (lab Λ w.heap.size 0 w.heap.size = 0) := lab_new (Nat.le_refl _)
  clear h h1 hD rD bD m1 hI hnil hm hV hE hK
  go_enter Tryz.func46, Tryz.ntmps46
  go_upto_region 1 with (fail)
  rw [HD.out]
  go_upto_region 3 with (fail)
  go_region_held3 (fun w' => w'.cell? ⟨hb, 2, none⟩ = some (.pointer (some ⟨pk, 0, none⟩)) ∧ w'.cell? ⟨w.heap.size, 0, none⟩ = some (.int .i64 s) ∧ w'.cell? ⟨w.heap.size, 1, none⟩ = some (.slice a l.length c)) (first | assumption | exact ⟨by assumption, by assumption, by assumption⟩ | go_keep)
    ((go_at_call 108; refine Calls.mono AD.out ?_; rintro e w4 ⟨rfl, Λ4, h4, m4⟩; have H4 : Hid (Ehx w4 Λ4 hb pa pk pc pn mb q W base bs K P m N rs f) := h4; have M4 : Hid (Ehm Λ w Λ4 w4) := M1.out.trans (ehm_drew m4); obtain ⟨_, _, z2, _, _, _⟩ := h4.cells; have zr : w4.heap[w.heap.size]? = some (.cells #[.int .i64 s, .slice a l.length c] 103 (0, 0)) := m4.tu.block _ _ RD.out (by rw [L0.out]; omega); obtain ⟨z3, z4, _, _⟩ := cbx15 zr; clear h4 m4 zr))
  all_goals
    go_wp2
    go_ret2
    exact ⟨rfl, Λ4, H4.out, M4.out⟩
end
end Go.Proofs.YtgdjlopnhecmjaaGreatDoor

/- Layer 15: Alloc of a heap. -/
namespace Go.Proofs.YtgdjlopnhecmjaaGreatDoor
open Go.RowKit
set_option linter.unusedVariables false
set_option maxRecDepth 4000

section
variable {w : World} {Λ : Nat → Nat} {hb pa pk pc pn mb q W : Nat} {base : Int} {bs : List Int} {ks : List Kn} {P : Nat} {m : List Sg} {N : Nat} {rs : List HRw} {f : Int → Option Nat}
theorem efull_any (h : Ehx w Λ hb pa pk pc pn mb q W base bs ks P m N rs f) (r : Bool) (hr : decide (N ≤ nxL rs) = r) :
    Calls Tryz.prog 70 #[.pointer (some ⟨pn, 0, none⟩)] w fun e w' => e = .returned (.bool r) ∧ Below w.heap.size w w' := by
  obtain ⟨B, a, c, hC, _⟩ := h.nm
  subst hr
  exact full_any B pn a c N rs w hC
set_option maxRecDepth 20000 in
set_option maxHeartbeats 4000000 in
theorem ealloc_full (h : Ehx w Λ hb pa pk pc pn mb q W base bs ks P m N rs f) (v : Int) (k : Nat) (hv : 0 ≤ v ∧ v < (W : Int)) (hk : k < ks.length) (hf : N ≤ nxL rs) :
    Calls Tryz.prog 24 #[.pointer (some ⟨hb, 0, none⟩), .int .i64 v, .int .i64 (k : Nat)] w fun e w' => e = .returned (.tuple #[.int .u64 0, .int .i64 7]) ∧ Below w.heap.size w w' := by
  have CW : Hid (Calls Tryz.prog 68 #[.pointer (some ⟨hb, 0, none⟩), .int .i64 v] w fun e w' => e = .returned (.int .i64 0) ∧ w = w') := by
    have q := ecw_any h v
    rw [show cwE W v = 0 from if_pos hv] at q
    exact q
  have H : Hid (Ehx w Λ hb pa pk pc pn mb q W base bs ks P m N rs f) := h
  obtain ⟨s, hs⟩ : ∃ s, (knD ks k).s = s := ⟨_, rfl⟩
  obtain ⟨l, hl⟩ : ∃ l, (knD ks k).l = l := ⟨_, rfl⟩
  have KG : Hid (Calls Tryz.prog 69 #[.pointer (some ⟨pk, 0, none⟩), .int .i64 (k : Nat)] w fun e w' => ∃ a' c', e = .returned (.tuple #[.agg #[.int .i64 s, .slice a' l.length c'], .int .i64 0]) ∧ OwnsI w' w.heap.size a' l c' ∧ Below w.heap.size w w') := by
    have q := ekget_any h k hk
    rw [hs, hl] at q
    exact q
  have FU : Hid (decide (N ≤ nxL rs) = true) := decide_eq_true hf
  obtain ⟨_, _, c2, _, _, _⟩ := h.cells
  clear h hv hk hf hs hl
  go_enter Tryz.func24, Tryz.ntmps24
  go_wp2_with fail
  refine Calls.mono CW.out ?_
  rintro e w' ⟨rfl, rfl⟩
  go_wp2_with fail
  refine Calls.mono KG.out ?_
  rintro e w1 ⟨a1, cc1, rfl, o1, b1⟩
  obtain ⟨E, hE, rE, bE⟩ := kbox15 w1 s (.slice a1 l.length cc1)
  have HE : Hid _ := hE
  have bb : Below w.heap.size w E := b1.trans (bE.mono b1.size)
  have BE : Hid (Below w.heap.size w E) := bb
  obtain ⟨h1, m1⟩ := H.out.keep bb
  have H1 : Hid (Ehx E (lab Λ w.heap.size 0) hb pa pk pc pn mb q W base bs ks P m N rs f) := h1
  obtain ⟨_, _, _, _, d4, _⟩ := h1.cells
  clear b1 bE rE hE o1 bb h1 m1
  go_upto_region 5 with (fail)
  rw [HE.out]
  go_wp2_with fail
  refine (efull_any H1.out true FU.out).mono ?_
  rintro e w3 ⟨rfl, b3⟩
  have B3 : Hid (Below w.heap.size w w3) := BE.out.trans (b3.mono BE.out.size)
  clear b3
  go_wp2
  go_ret2
  exact ⟨rfl, B3.out⟩
end
end Go.Proofs.YtgdjlopnhecmjaaGreatDoor
