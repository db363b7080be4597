/- What Flush and Crash answer. -/
import Derived.Test.YtofmicbhheebiaaDoorDkI
import Derived.Lib.SlBytesConst
import Derived.Deep.Slices
import Derived.Deep.Strs
import Derived.Lib.SmallJoins
namespace Go.Proofs.YtofmicbhheebiaaDoor
open Go.RowKit Go.Maps
set_option linter.unusedVariables false
set_option maxRecDepth 4000

theorem ent_f1 : (match Tryd.prog.funcs[28]? with | some fn => !(fn.name == "runtime.NumGoroutine") && !fn.body.isNone | none => false) = true := by kernel_rfl
theorem flush1_any (k : Nat) (w : World) : Calls Tryd.prog 28 #[.int .i64 (k : Nat)] w fun e w' => e = .returned (.int .i64 ((64 : Nat) : Int)) ∧ w = w' := by
  go_enter Tryd.func28, Tryd.ntmps28
  go_wp2
  go_ret
  exact ⟨rfl, rfl⟩

/-- A slice of numbers. -/
def IsI (w : World) (a : Option Addr) (l : List Int) : Prop :=
  (∀ x ∈ l, -9223372036854775808 ≤ x ∧ x ≤ 9223372036854775807) ∧ (l = [] ∨ ∃ b off, a = some ⟨b, off, none⟩ ∧ b < w.heap.size ∧ ∀ i, i < l.length → w.cell? ⟨b, off + i, none⟩ = some (.int .i64 (l.getD i 0)))
theorem IsI.keep {w w' : World} {a : Option Addr} {l : List Int} (h : IsI w a l) (hb : Below w.heap.size w w') : IsI w' a l := by
  obtain ⟨h1, h2 | ⟨b, off, e, hs, hc⟩⟩ := h
  · exact ⟨h1, .inl h2⟩
  · refine ⟨h1, .inr ⟨b, off, e, by have := hb.size; omega, fun i hi => ?_⟩⟩
    rw [hb.cell (p := ⟨b, off + i, none⟩) hs]; exact hc i hi

theorem flush_any (base b m : Nat) (d : Dk) (w : World) (h : IsD w base b m d) (hbase : base ≤ w.heap.size) (hm : m ≤ 900000) (ho : d.ops ≤ 1000000000) :
    Calls Tryd.prog 11 #[.pointer (some ⟨b, 0, none⟩)] w fun e w' => e = .returned (.int .i64 (flushE d)) ∧ IsD w' base b m (flushD d) ∧ Turn base KC w w' := by
  have H : Hid (IsD w base b m d) := h
  cases hd : d.down
  · have E : Hid (deadE d = 0) := by show deadE d = 0; simp [deadE, hd]
    have HD : Hid (d.down = false) := hd
    by_cases h1 : d.left = 1
    · have E1 : Hid (workE d = 14) := by show workE d = 14; simp [workE, h1]
      have E2 : Hid (flushE d = 14) := by show flushE d = 14; simp [flushE, hd, workE, h1]
      have E3 : Hid (flushD d = workD d) := by show flushD d = workD d; simp [flushD, hd, h1]
      rw [E2.out, E3.out]
      clear hd h1 h
      go_enter Tryd.func11, Tryd.ntmps11
      go_wp2_with (first
        | (go_at_call 26; refine (dead_any base b m d _ H.out).mono ?_; rw [E.out]; rintro e w' ⟨rfl, rfl⟩)
        | (go_at_call 24; refine (worked_any base b m d _ H.out HD.out ho).mono ?_; rw [E1.out]; rintro e w1 ⟨rfl, i1, t1⟩))
      go_ret
      exact ⟨rfl, i1, t1⟩
    · have E1 : Hid (workE d = 0) := by show workE d = 0; simp [workE, h1]
      have E2 : Hid (flushE d = 0) := by show flushE d = 0; simp [flushE, hd, workE, h1]
      have E3 : Hid (flushD d = settleD (fun _ => 64) (workD d)) := by show flushD d = _; simp [flushD, hd, h1]
      rw [E2.out, E3.out]
      clear hd h1 h
      go_enter Tryd.func11, Tryd.ntmps11
      go_wp2_with (first
        | (go_at_call 26; refine (dead_any base b m d _ H.out).mono ?_; rw [E.out]; rintro e w' ⟨rfl, rfl⟩)
        | (go_at_call 24; refine (worked_any base b m d _ H.out HD.out ho).mono ?_; rw [E1.out]; rintro e w1 ⟨rfl, i1, t1⟩; have I1 : Hid (IsD w1 base b m (workD d)) := i1; have T1 : Hid (Turn base KC w w1) := t1; clear i1 t1)
        | (go_at_call 27; refine (settle_any base b m (workD d) 28 [] (fun _ => 64) _ I1.out (by have := T1.out.size; omega) hm ent_f1 (fun w' k _ _ => flush1_any k w') (fun _ => Nat.le_refl _)).mono ?_; rintro e w2 ⟨rfl, i2, t2⟩; have I2 : Hid (IsD w2 base b m (settleD (fun _ => 64) (workD d))) := i2; have T2 : Hid (Turn base KC w w2) := T1.out.trans t2; clear i2 t2))
      go_ret
      exact ⟨rfl, I2.out, T2.out⟩
  · have E : Hid (deadE d = 14) := by show deadE d = 14; simp [deadE, hd]
    have E2 : Hid (flushE d = 14) := by show flushE d = 14; simp [flushE, hd]
    have E3 : Hid (flushD d = d) := by show flushD d = d; simp [flushD, hd]
    rw [E2.out, E3.out]
    clear hd h
    go_enter Tryd.func11, Tryd.ntmps11
    go_wp2_with (go_at_call 26; refine (dead_any base b m d _ H.out).mono ?_; rw [E.out]; rintro e w' ⟨rfl, rfl⟩)
    go_ret
    exact ⟨rfl, H.out, Turn.refl _ _ _⟩

end Go.Proofs.YtofmicbhheebiaaDoor

/- The document's example of layer 5 comes out: alive answers true, and turns nothing that was there. -/
namespace Go.Proofs.YtofmicbhheebiaaDoor
open Go.RowKit Go.Maps
set_option linter.unusedVariables false
set_option maxRecDepth 4000

end Go.Proofs.YtofmicbhheebiaaDoor

/- What the laws of layer 5 share: how arguments that came in are opened. -/
namespace Go.Proofs.YtofmicbhheebiaaDoor
open Go.ChangeShapes Go.WideShapes Go.ChangeAt Go.RowKit
set_option linter.unusedVariables false
set_option maxRecDepth 4000

theorem own : ownKnob Tryd.prog.godebug = none := by kernel_rfl
theorem laidOut : laidOutB Tryd.prog = true := by kernel_rfl

theorem byte_of_wf {x : Int} (h : (Lit.int .u8 x).wf = true) : 0 ≤ x ∧ x ≤ 255 := by
  simp [Lit.wf, IntKind.min, IntKind.max, IntKind.signed, IntKind.bits] at h
  exact ⟨by omega, by omega⟩
theorem u8_of_wf {x : Int} (h : (Lit.int .u8 x).wf = true) : ∃ m : Nat, x = m ∧ m < 256 := by
  have := byte_of_wf h
  exact ⟨x.toNat, by omega, by omega⟩

theorem lt_of_cell {w : World} {b off : Nat} {v : Value} (h : w.cell? ⟨b, off, none⟩ = some v) : b < w.heap.size := block_lt_of_cell h

theorem isB_of_cells {w : World} (x : Addr) (len : Nat) (zs : List Int) (hl : len ≤ zs.length) (hc : ∀ i, i < zs.length → w.cell? (x.add i) = some (.int .u8 (zs.getD i 0))) (hw : ∀ n ∈ zs, (Lit.int .u8 n).wf = true) : IsB w (some x) (zs.take len) := by
  refine ⟨fun n hn => byte_of_wf (hw n (List.mem_of_mem_take hn)), ?_⟩
  by_cases h0 : len = 0
  · exact .inl (by rw [h0]; rfl)
  · obtain ⟨b, off, spot⟩ := x
    have h1 := hc 0 (by omega)
    have hspot : spot = none := by simpa [Addr.add] using World.cell?_spot h1
    subst hspot
    refine .inr ⟨b, off, rfl, ?_, ?_⟩
    · rw [addr_add] at h1
      exact lt_of_cell h1
    · intro i hi
      rw [List.length_take] at hi
      rw [← addr_add, hc i (by omega)]
      simp [List.getD, show i < len by omega]
theorem Tryd.bytes5 : Tryd.prog.bytesOf 5 = 1 := by kernel_rfl
/-- A slice of bytes in a cell, and how long it may be. -/
theorem bytes_cells {H : Type} {enc : TypeId × Value → H} {W : World} {fuel : Nat} {cs : List Value} {x : DataW H × List MemPlace} (hf : DataW.trod enc Tryd.prog W 0 (fun _ => true) true fuel 22 cs = some x) :
    ∃ (a : Option Addr) (cap : Nat) (l : List Int), cs = [.slice a l.length cap] ∧ IsB W a l ∧ (a = none → l = [] ∧ cap = 0) ∧ l.length ≤ maxLen ∧ ((∀ n ∈ x.1.weights Tryd.prog 22, n ≤ reachBytes) → l.length ≤ 140737488355328) := by
  rcases open_ints Tryd.underlying22 Tryd.underlying5 (by kernel_rfl) hf with ⟨hcs, hx⟩ | ⟨y, l, c, zs, hcs, _, hl, hm, hz, hx, hcell, hwz⟩
  · exact ⟨none, 0, [], hcs, ⟨by simp, .inl rfl⟩, fun _ => ⟨rfl, rfl⟩, Nat.zero_le _, fun _ => Nat.zero_le _⟩
  · simp only [if_true] at hz
    refine ⟨some y, c, zs.take l, ?_, isB_of_cells y l zs (by omega) hcell hwz, by simp, by rw [List.length_take]; omega, fun hn => ?_⟩
    · rw [hcs, List.length_take, Nat.min_eq_left (by omega)]
    · rw [hx] at hn
      have := hn _ (by simp [DataW.weights, Tryd.underlying22]; left; rfl)
      simp [lits, Tryd.bytes5, reachBytes] at this
      rw [List.length_take]
      omega
/-- A call, as it came in. -/
structure Cl where
  kd : Int
  «at» : Int
  a : Option Addr
  c : Nat
  b : List Int
  ka : Option Addr
  kc : Nat
  ks : List Int

/-- What a call's cells hold. -/
structure ClOk (w : World) (x : Cl) : Prop where
  kd : -9223372036854775808 ≤ x.kd ∧ x.kd ≤ 9223372036854775807
  «at» : -9223372036854775808 ≤ x.at ∧ x.at ≤ 9223372036854775807
  isB : IsB w x.a x.b
  nilB : x.a = none → x.b = [] ∧ x.c = 0
  lenB : x.b.length ≤ maxLen
  isI : IsI w x.ka x.ks
  nilI : x.ka = none → x.ks = [] ∧ x.kc = 0
  lenI : x.ks.length ≤ maxLen

/-- A slice of calls. -/
structure IsC (w : World) (a : Option Addr) (cs : List Cl) : Prop where
  at' : cs = [] ∨ ∃ b off, a = some ⟨b, off, none⟩ ∧ b < w.heap.size ∧ ∀ i (h : i < cs.length), w.cell? ⟨b, off + i * 4, none⟩ = some (.int .i64 cs[i].kd) ∧ w.cell? ⟨b, off + i * 4 + 1, none⟩ = some (.int .i64 cs[i].at) ∧
    w.cell? ⟨b, off + i * 4 + 2, none⟩ = some (.slice cs[i].a cs[i].b.length cs[i].c) ∧ w.cell? ⟨b, off + i * 4 + 3, none⟩ = some (.slice cs[i].ka cs[i].ks.length cs[i].kc)
  body : ∀ x ∈ cs, ClOk w x

theorem IsC.keep {w w' : World} {a : Option Addr} {cs : List Cl} (h : IsC w a cs) (hb : Below w.heap.size w w') : IsC w' a cs where
  at' := by
    rcases h.at' with h0 | ⟨b, off, e, hs, hc⟩
    · exact .inl h0
    · refine .inr ⟨b, off, e, by have := hb.size; omega, fun i hi => ?_⟩
      rw [hb.cell (p := ⟨b, off + i * 4, none⟩) hs, hb.cell (p := ⟨b, off + i * 4 + 1, none⟩) hs, hb.cell (p := ⟨b, off + i * 4 + 2, none⟩) hs, hb.cell (p := ⟨b, off + i * 4 + 3, none⟩) hs]
      exact hc i hi
  body := fun x hx => let y := h.body x hx; ⟨y.kd, y.at, y.isB.keep hb, y.nilB, y.lenB, y.isI.keep hb, y.nilI, y.lenI⟩

end Go.Proofs.YtofmicbhheebiaaDoor
