/- What puts answers. -/
import Derived.Test.YtddkmmkhlfjhiaaDkN
import Derived.Test.YtddkmmkhlfjhiaaDkQ
import Derived.Test.YtddkmmkhlfjhiaaDkR
namespace Go.Proofs.Ytddkmmkhlfjhiaa
open Go.ChangeShapes Go.WideShapes Go.ChangeAt Go.RowKit Go.Maps
set_option linter.unusedVariables false

/-- The sector that a call names. -/
def at31 (x : Int) : Nat := (bits BinOp.and IntKind.i64 x 31).toNat
theorem at31_is (x : Int) : bits BinOp.and IntKind.i64 x 31 = (at31 x : Nat) ∧ at31 x < 32 := by
  obtain ⟨s, hs, h⟩ := and31 x
  unfold at31
  rw [h]
  exact ⟨by omega, by omega⟩

def put1 (d : Dk) (x : Cl) : Dk := if x.b.length ≤ 64 then writeD d (at31 x.at) x.b else d
def putsD (d : Dk) (cs : List Cl) : Dk := cs.foldl put1 d
theorem putsD_take (d : Dk) (cs : List Cl) (k : Nat) (h : k < cs.length) : putsD d (cs.take (k + 1)) = put1 (putsD d (cs.take k)) cs[k] := by
  rw [List.take_succ_eq_append_getElem h, putsD, putsD, List.foldl_append]; rfl

/-- A disk with power, not armed, of 32 sectors. -/
structure Calm (d : Dk) : Prop where
  down : d.down = false
  left : d.left = 0
  n : d.n = 32
theorem put1_calm {d : Dk} {x : Cl} (h : Calm d) : Calm (put1 d x) ∧ (put1 d x).sure = d.sure ∧ (put1 d x).ops ≤ d.ops + 1 ∧ (x.b.length ≤ 64 → writeE d (at31 x.at) x.b = 0) ∧ ∀ y ∈ (put1 d x).pend, y ∈ d.pend ∨ x.b.length ≤ 64 ∧ y.at = at31 x.at := by
  unfold put1
  by_cases hl : x.b.length ≤ 64
  · rw [if_pos hl]
    obtain ⟨e1, e2⟩ := write_calm (d := d) (i := at31 x.at) (l := x.b) h.down h.left (by rw [h.n]; exact (at31_is x.at).2) hl
    rw [e2]
    refine ⟨⟨h.down, h.left, h.n⟩, rfl, Nat.le_refl _, fun _ => e1, fun y hy => ?_⟩
    rcases List.mem_append.1 hy with hy | hy
    · exact .inl hy
    · simp at hy; subst hy; exact .inr ⟨hl, rfl⟩
  · rw [if_neg hl]
    exact ⟨h, rfl, by omega, fun h' => absurd h' hl, fun y hy => .inl hy⟩
theorem putsD_calm : ∀ (cs : List Cl) {d : Dk}, Calm d → Calm (putsD d cs) ∧ (putsD d cs).sure = d.sure ∧ (putsD d cs).ops ≤ d.ops + cs.length ∧ ∀ y ∈ (putsD d cs).pend, y ∈ d.pend ∨ ∃ x ∈ cs, x.b.length ≤ 64 ∧ y.at = at31 x.at
  | [], d, h => ⟨h, rfl, Nat.le_refl _, fun y hy => .inl hy⟩
  | x :: r, d, h => by
    obtain ⟨h1, h2, h3, _, h5⟩ := put1_calm (x := x) h
    obtain ⟨g1, g2, g3, g4⟩ := putsD_calm r h1
    refine ⟨g1, g2.trans h2, ?_, fun y hy => ?_⟩
    · have : (putsD d (x :: r)).ops ≤ (put1 d x).ops + r.length := g3
      simp only [List.length_cons]; omega
    · rcases g4 y hy with hy | ⟨z, hz, hz'⟩
      · rcases h5 y hy with hy | hy
        · exact .inl hy
        · exact .inr ⟨x, by simp, hy⟩
      · exact .inr ⟨z, by simp [hz], hz'⟩

set_option maxRecDepth 100000 in
set_option maxHeartbeats 8000000 in
theorem puts_any (base b m : Nat) (d : Dk) (a : Option Addr) (cap : Nat) (cs : List Cl) (w : World) (h : IsD w base b m d) (hbase : base ≤ w.heap.size) (hm : m ≤ 1000) (hops : d.ops ≤ 1000) (hcalm : Calm d) (hC : ∀ w', Below base w w' → IsC w' a cs) (hlow : ∀ bb oo, a = some ⟨bb, oo, none⟩ → cs ≠ [] → bb < base) :
    Calls Try.prog 33 #[.pointer (some ⟨b, 0, none⟩), .slice a cs.length cap] w fun e w' => e = .returned (.bool true) ∧ IsD w' base b (m + 100) (putsD d (cs.take 100)) ∧ Turn base KC w w' := by
  have HC : Hid (∀ w', Below base w w' → IsC w' a cs) := hC
  have HL : Hid (∀ bb oo, a = some ⟨bb, oo, none⟩ → cs ≠ [] → bb < base) := hlow
  have I0 : Hid (IsD w base b m d) := h
  have CA : Hid (Calm d) := hcalm
  clear hC hlow h hcalm
  go_enter Try.func33, Try.ntmps33
  go_wp2
  go_loopw [5] (fun iv wr => ∃ i : Nat, i ≤ cs.length ∧ i ≤ 100 ∧ iv = .int .i64 (i : Nat) ∧ IsD wr base b (m + i) (putsD d (cs.take i)) ∧ Turn base KC w wr) (fun iv _ => 100 - (intOf iv).toNat)
  case atStart => exact ⟨0, Nat.zero_le _, Nat.zero_le _, rfl, I0.out, Turn.refl _ _ _⟩
  case round =>
    clear I0
    obtain ⟨i, hi, hi1, rfl, hI, hT⟩ := hrel
    rename World => wr
    have HI : Hid (IsD wr base b (m + i) (putsD d (cs.take i))) := hI
    have HT : Hid (Turn base KC w wr) := hT
    clear hI hT
    by_cases hlt : i < cs.length ∧ i < 100
    · obtain ⟨h1, h2⟩ := hlt
      have zr : base ≤ wr.heap.size := by have := HT.out.size; omega
      have hC := HC.out wr (HT.out.below hbase)
      obtain h0 | ⟨cb, off, rfl, hcb, hcell⟩ := hC.at'
      · rw [h0] at h1; simp at h1
      · have hcbl := HL.out cb off rfl (fun e => by rw [e] at h1; simp at h1)
        have EX : Hid (putsD d (cs.take (i + 1)) = put1 (putsD d (cs.take i)) cs[i]) := putsD_take d cs i h1
        obtain ⟨x, hx⟩ : ∃ x, cs[i] = x := ⟨_, rfl⟩
        obtain ⟨_, q1, q2, _⟩ := hcell i h1
        have hX := hC.body cs[i] (List.getElem_mem h1)
        rw [hx] at q1 q2 hX EX
        have HX : Hid (ClOk wr x) := hX
        obtain ⟨D1, hD1⟩ : ∃ D1, putsD d (cs.take i) = D1 := ⟨_, rfl⟩
        have CD := putsD_calm (cs.take i) CA.out
        rw [hD1] at CD EX HI
        have P1 := put1_calm (x := x) CD.1
        have OP : Hid (D1.ops ≤ 1000000000) := by show D1.ops ≤ _; have := CD.2.2.1; simp at this; omega
        have WE : Hid (x.b.length ≤ 64 → writeE D1 (at31 x.at) x.b = 0) := P1.2.2.2.1
        have hand := (at31_is x.at).1
        have d1 : decide ((i : Int) < (cs.length : Int)) = true := by simp; omega
        have d2 : decide ((i : Int) < 100) = true := by simp; omega
        clear hC hcell hx hX hD1 CD P1
        by_cases hb : x.b.length ≤ 64
        · have E1 : Hid (writeE D1 (at31 x.at) x.b = 0) := WE.out hb
          have E2 : Hid (put1 D1 x = writeD D1 (at31 x.at) x.b) := by show put1 D1 x = _; rw [put1, if_pos hb]
          have d3 : decide ((x.b.length : Int) ≤ 64) = true := by simp; omega
          go_wp2_with fail
          go_region_held3 (fun w' => w'.cell? ⟨cb, off + i * 4 + 1, none⟩ = some (.int .i64 x.at) ∧ w'.cell? ⟨cb, off + i * 4 + 2, none⟩ = some (.slice x.a x.b.length x.c)) (first | assumption | exact ⟨by assumption, by assumption⟩ | go_keep) (first
            | (go_at_call 17; refine (write_any base b (m + i) D1 (at31 x.at : Nat) _ _ _ x.b _ HI.out.drew zr rfl HX.out.isB (by omega) OP.out).mono ?_; rw [E1.out]; rintro e w4 ⟨rfl, i4, t4'⟩; have I4 : Hid (IsD w4 base b (m + i + 1) (writeD D1 (at31 x.at : Nat) x.b)) := i4; have T4 : Hid (Turn base KC w w4) := HT.out.drew.trans t4'; have b4 := t4'.below (by exact zr); have s1 : w4.cell? ⟨cb, off + i * 4 + 1, none⟩ = some (.int .i64 x.at) := (b4.cell (p := ⟨cb, off + i * 4 + 1, none⟩) hcbl).trans q1; have s2 : w4.cell? ⟨cb, off + i * 4 + 2, none⟩ = some (.slice x.a x.b.length x.c) := (b4.cell (p := ⟨cb, off + i * 4 + 2, none⟩) hcbl).trans q2; clear i4 t4' b4))
          go_wp2
          go_roundw
          case rel => exact ⟨i + 1, by omega, by omega, by go_num, by rw [EX.out, E2.out]; exact I4.out, T4.out⟩
          case measure => simp [intOf]; omega
        · have E2 : Hid (put1 D1 x = D1) := by show put1 D1 x = _; rw [put1, if_neg hb]
          have d3 : decide ((x.b.length : Int) ≤ 64) = false := by simp; omega
          go_wp2_with fail
          go_quiet (fail)
          have I4 : Hid (IsD (wr.drewN nq) base b (m + (i + 1)) D1) := (HI.out.same (w' := wr.drewN nq) (fun _ _ ho _ => ho)).mono (by omega)
          have T4 : Hid (Turn base KC w (wr.drewN nq)) := ⟨HT.out.os, HT.out.tape, HT.out.output, HT.out.size, HT.out.block⟩
          go_wp2
          go_roundw
          case rel => exact ⟨i + 1, by omega, by omega, by go_num, by rw [EX.out, E2.out]; exact I4.out, T4.out⟩
          case measure => simp [intOf]; omega
    · have ET : Hid (cs.take i = cs.take 100) := by
        show _ = _
        by_cases e : i = 100
        · rw [e]
        · rw [List.take_of_length_le (by omega), List.take_of_length_le (by omega)]
      have I9 : Hid (IsD wr base b (m + 100) (putsD d (cs.take 100))) := by show IsD _ _ _ _ _; rw [← ET.out]; exact HI.out.mono (by omega)
      rcases Nat.lt_or_ge i cs.length with h1 | h1
      · obtain rfl : i = 100 := by omega
        have d1 : (100 : Int) < (cs.length : Int) := by omega
        clear hlt
        go_wp2
        go_ret
        exact ⟨rfl, I9.out, HT.out⟩
      · obtain rfl : i = cs.length := by omega
        clear hlt
        go_wp2
        all_goals
          go_ret
          exact ⟨rfl, I9.out, HT.out⟩
end Go.Proofs.Ytddkmmkhlfjhiaa
