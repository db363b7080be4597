/- Rows and handles: memory and contracts, the code's and the document's -/
import Derived.Test.YtgdjlopnhecmjaaGreatDoorGzAG
import Derived.Maps.AppendAt
import Derived.Lib.AppendZerosOnto
import Derived.Lib.SmallJoins
import Derived.Deep.RegionLaw
import Derived.Test.YtgdjlopnhecmjaaGreatDoorLaA
import Derived.Deep.RegionHeld3
import Derived.Laws.AppendOwnNone
import Derived.Test.YtgdjlopnhecmjaaGreatDoorAuB
import Derived.BigQuiet
import Derived.Deep.WholeRow
namespace Go.Proofs.YtgdjlopnhecmjaaGreatDoor
open Go.RowKit
set_option linter.unusedVariables false
set_option maxRecDepth 4000


/-- A row: its last generation, whether it is live, of which kind, at which place. -/
structure HRw where
  gen : Int
  live : Bool
  kind : Int
  pl : Int
/-- The handle of an index and a generation. -/
def ofN (i g : Int) : Nat := if 1 ≤ i ∧ i ≤ 4096 ∧ 1 ≤ g ∧ g ≤ 65535 then (i + 65536 * g).toNat else 0
theorem of_in {i g : Int} (h : 1 ≤ i ∧ i ≤ 4096 ∧ 1 ≤ g ∧ g ≤ 65535) : ofN i g = (i + 65536 * g).toNat := if_pos h
theorem of_out {i g : Int} (h : ¬ (1 ≤ i ∧ i ≤ 4096 ∧ 1 ≤ g ∧ g ≤ 65535)) : ofN i g = 0 := if_neg h
def intOf : Value → Int
  | .int _ n => n
  | _ => 0
/-- Rows as cells. -/
def cellsW : List HRw → List Value
  | [] => []
  | r :: l => .int .i64 r.gen :: .bool r.live :: .int .i64 r.kind :: .int .i64 r.pl :: cellsW l
theorem cellsW_len : ∀ l, (cellsW l).length = l.length * 4
  | [] => rfl
  | r :: l => by simp [cellsW, cellsW_len l]; omega
theorem cellsW_append : ∀ (a b : List HRw), cellsW (a ++ b) = cellsW a ++ cellsW b
  | [], _ => rfl
  | r :: a, b => by simp [cellsW, cellsW_append a b]
theorem cellsW_one : ∀ (l : List HRw), ∀ v ∈ cellsW l, v.oneCell' = true
  | r :: l, v, hv => by
    simp only [cellsW, List.mem_cons] at hv
    rcases hv with rfl | rfl | rfl | rfl | hv
    · rfl
    · rfl
    · rfl
    · rfl
    · exact cellsW_one l v hv
theorem cellsW_at : ∀ (l : List HRw) (i : Nat) (h : i < l.length), (cellsW l)[i * 4]? = some (.int .i64 l[i].gen) ∧ (cellsW l)[i * 4 + 1]? = some (.bool l[i].live) ∧ (cellsW l)[i * 4 + 2]? = some (.int .i64 l[i].kind) ∧ (cellsW l)[i * 4 + 3]? = some (.int .i64 l[i].pl)
  | r :: l, 0, _ => by simp [cellsW]
  | r :: l, i + 1, h => by
    have := cellsW_at l i (by simpa using h)
    rw [show (i + 1) * 4 = i * 4 + 4 from by omega, show i * 4 + 4 + 1 = i * 4 + 1 + 4 from by omega, show i * 4 + 4 + 2 = i * 4 + 2 + 4 from by omega, show i * 4 + 4 + 3 = i * 4 + 3 + 4 from by omega]
    simpa [cellsW] using this
theorem Tryz.infoW : (Tryz.prog.info? 57).map (fun i => (i.zero, i.size, i.bytes)) = some (some (.agg #[.int .i64 0, .bool false, .int .i64 0, .int .i64 0]), 4, 32) := by kernel_rfl
theorem Tryz.infoH : (Tryz.prog.info? 38).map (fun i => (i.zero, i.size, i.bytes)) = some (some (.int .u64 0), 1, 8) := by kernel_rfl
theorem Tryz.undRows : Tryz.prog.underlying 51 = some (.slice 57) := by kernel_rfl
theorem Tryz.undHs : Tryz.prog.underlying 44 = some (.slice 38) := by kernel_rfl
/-- Rows in a row of one's own. -/
def Ow (w : World) (B : Nat) (a : Option Addr) (l : List HRw) (c : Nat) : Prop := w.ownsRow B 57 4 (.slice a l.length c) l.length (cellsW l)
/-- Handles in a row of one's own. -/
def cellsH (l : List Nat) : List Value := l.map (fun n => Value.int .u64 (n : Nat))
def Oh (w : World) (B : Nat) (a : Option Addr) (l : List Nat) (c : Nat) : Prop := w.ownsRow B 38 1 (.slice a l.length c) l.length (cellsH l)
theorem Ow.nil (w : World) (B : Nat) : Ow w B none [] 0 := World.ownsRow_nil _ _ _ _
theorem Ow.same {w w' : World} {B : Nat} {a : Option Addr} {l : List HRw} {c : Nat} (h : Ow w B a l c) (he : ∀ g o, ob a = some g → w.heap[g]? = some o → w'.heap[g]? = some o) : Ow w' B a l c := by
  obtain ⟨h0, h1 | ⟨g, c', cur, h1, hg, h2, h3⟩⟩ := h
  · exact ⟨h0, .inl h1⟩
  · exact ⟨h0, .inr ⟨g, c', cur, h1, hg, he g _ (by cases h1; rfl) h2, h3⟩⟩
theorem Ow.mono {w : World} {B B' : Nat} {a : Option Addr} {l : List HRw} {c : Nat} (h : Ow w B a l c) (hb : B' ≤ B) : Ow w B' a l c := by
  obtain ⟨h0, h1 | ⟨g, c', cur, h1, hg, h2⟩⟩ := h
  · exact ⟨h0, .inl h1⟩
  · exact ⟨h0, .inr ⟨g, c', cur, h1, by omega, h2⟩⟩
theorem Ow.keep {w w' : World} {B : Nat} {a : Option Addr} {l : List HRw} {c : Nat} (h : Ow w B a l c) (hb : Below w.heap.size w w') : Ow w' B a l c := h.same (fun g o _ ho => by rw [hb.block g (hlt ho)]; exact ho)
theorem Ow.tu {S : Nat → Prop} {w w' : World} {B : Nat} {a : Option Addr} {l : List HRw} {c : Nat} (h : Ow w B a l c) (ht : Tu S w w') (hs : ∀ g, ob a = some g → ¬ S g) : Ow w' B a l c := h.same (fun g o hg ho => ht.block g o ho (hs g hg))
theorem Ow.ge {w : World} {B : Nat} {a : Option Addr} {l : List HRw} {c : Nat} (h : Ow w B a l c) : ∀ g, ob a = some g → B ≤ g ∧ g < w.heap.size := by
  intro g hg
  obtain ⟨_, ⟨h1, h3⟩ | ⟨g', c', cur, h1, hb, h2, _⟩⟩ := h
  · obtain rfl := List.eq_nil_of_length_eq_zero h3; cases h1; cases hg
  · cases h1; cases hg; exact ⟨hb, hlt h2⟩
theorem Ow.len {w : World} {B : Nat} {a : Option Addr} {l : List HRw} {c : Nat} (h : Ow w B a l c) : l.length ≤ c ∧ c ≤ 9223372036854775807 := by
  obtain ⟨_, ⟨h1, h2⟩ | ⟨g', c', cur, h1, hb, h2, h3, h4, _⟩⟩ := h
  · obtain rfl := List.eq_nil_of_length_eq_zero h2; cases h1; exact ⟨by simp, Nat.zero_le _⟩
  · cases h1; unfold maxLen at h4; exact ⟨h3, h4⟩
theorem Ow.no {w : World} {B : Nat} {l : List HRw} {c : Nat} (h : Ow w B none l c) : l = [] ∧ c = 0 := by
  obtain ⟨_, ⟨h1, h2⟩ | ⟨g', c', cur, h1, _⟩⟩ := h
  · obtain rfl := List.eq_nil_of_length_eq_zero h2; cases h1; exact ⟨rfl, rfl⟩
  · cases h1
theorem Ow.kind {w : World} {B : Nat} {a : Option Addr} {l : List HRw} {c : Nat} (h : Ow w B a l c) : ∀ g, ob a = some g → ∃ cur, w.heap[g]? = some (.cells cur 57 (0, 0)) := by
  intro g hg
  obtain ⟨_, ⟨h1, h2⟩ | ⟨g', c', cur, h1, _, h2, _⟩⟩ := h
  · obtain rfl := List.eq_nil_of_length_eq_zero h2; cases h1; cases hg
  · cases h1; cases hg; exact ⟨cur, h2⟩
theorem Oh.nil (w : World) (B : Nat) : Oh w B none [] 0 := World.ownsRow_nil _ _ _ _
theorem Oh.same {w w' : World} {B : Nat} {a : Option Addr} {l : List Nat} {c : Nat} (h : Oh w B a l c) (he : ∀ g o, ob a = some g → w.heap[g]? = some o → w'.heap[g]? = some o) : Oh w' B a l c := by
  obtain ⟨h0, h1 | ⟨g, c', cur, h1, hg, h2, h3⟩⟩ := h
  · exact ⟨h0, .inl h1⟩
  · exact ⟨h0, .inr ⟨g, c', cur, h1, hg, he g _ (by cases h1; rfl) h2, h3⟩⟩
theorem Oh.keep {w w' : World} {B : Nat} {a : Option Addr} {l : List Nat} {c : Nat} (h : Oh w B a l c) (hb : Below w.heap.size w w') : Oh w' B a l c := h.same (fun g o _ ho => by rw [hb.block g (hlt ho)]; exact ho)
theorem Oh.ge {w : World} {B : Nat} {a : Option Addr} {l : List Nat} {c : Nat} (h : Oh w B a l c) : ∀ g, ob a = some g → B ≤ g ∧ g < w.heap.size := by
  intro g hg
  obtain ⟨_, ⟨h1, h3⟩ | ⟨g', c', cur, h1, hb, h2, _⟩⟩ := h
  · obtain rfl := List.eq_nil_of_length_eq_zero h3; cases h1; cases hg
  · cases h1; cases hg; exact ⟨hb, hlt h2⟩
theorem Ow.cells {w : World} {B : Nat} {a : Option Addr} {l : List HRw} {c : Nat} (h : Ow w B a l c) (i : Nat) (hi : i < l.length) : ∃ g, a = some ⟨g, 0, none⟩ ∧ B ≤ g ∧ g < w.heap.size ∧ w.cell? ⟨g, i * 4, none⟩ = some (.int .i64 l[i].gen) ∧ w.cell? ⟨g, i * 4 + 1, none⟩ = some (.bool l[i].live) ∧ w.cell? ⟨g, i * 4 + 2, none⟩ = some (.int .i64 l[i].kind) ∧ w.cell? ⟨g, i * 4 + 3, none⟩ = some (.int .i64 l[i].pl) := by
  have h' := h
  obtain ⟨_, ⟨h1, h2⟩ | ⟨g, c', cur, h1, hb, h2, h3, h4, h5, h6⟩⟩ := h
  · omega
  · cases h1
    obtain ⟨k0, k1, k2, k3⟩ := cellsW_at l i hi
    refine ⟨g, rfl, hb, hlt h2, ?_, ?_, ?_, ?_⟩
    · rw [World.ownsRow.cellAt h' (i * 4) (by omega)]; exact k0
    · rw [World.ownsRow.cellAt h' (i * 4 + 1) (by omega)]; exact k1
    · rw [World.ownsRow.cellAt h' (i * 4 + 2) (by omega)]; exact k2
    · rw [World.ownsRow.cellAt h' (i * 4 + 3) (by omega)]; exact k3
/-- A slice of rows that may be read. -/
def IsW (w : World) (a : Option Addr) (l : List HRw) : Prop :=
  l = [] ∨ ∃ b off, a = some ⟨b, off, none⟩ ∧ b < w.heap.size ∧ ∀ i (h : i < l.length), w.cell? ⟨b, off + i * 4, none⟩ = some (.int .i64 l[i].gen) ∧ w.cell? ⟨b, off + i * 4 + 1, none⟩ = some (.bool l[i].live) ∧ w.cell? ⟨b, off + i * 4 + 2, none⟩ = some (.int .i64 l[i].kind) ∧ w.cell? ⟨b, off + i * 4 + 3, none⟩ = some (.int .i64 l[i].pl)
theorem IsW.same {w w' : World} {a : Option Addr} {l : List HRw} (h : IsW w a l) (hz : w.heap.size ≤ w'.heap.size) (hb : ∀ p, a = some p → w'.heap[p.block]? = w.heap[p.block]?) : IsW w' a l := by
  rcases h with h | ⟨b, off, e, hs, hc⟩
  · exact .inl h
  · have q : ∀ j, w'.cell? ⟨b, j, none⟩ = w.cell? ⟨b, j, none⟩ := fun j => World.cell?_of_block (hb ⟨b, off, none⟩ e)
    refine .inr ⟨b, off, e, by omega, fun i hi => ?_⟩
    rw [q, q, q, q]; exact hc i hi
theorem IsW.keep {w w' : World} {a : Option Addr} {l : List HRw} (h : IsW w a l) (hb : Below w.heap.size w w') : IsW w' a l := by
  rcases h with h | ⟨b, off, e, hs, hc⟩
  · exact .inl h
  · exact IsW.same (.inr ⟨b, off, e, hs, hc⟩) hb.size (fun p hp => by rw [e] at hp; cases hp; exact hb.block b hs)
/-! ### appends -/
theorem or_nat (a b : Nat) (ha : a < 2 ^ 64) (hb : b < 2 ^ 64) : bits .or .u64 (a : Int) (b : Int) = ((a ||| b : Nat) : Int) := by
  have := u64_or (a : Int) (b : Int) (by omega) (by omega) (by omega) (by omega)
  simpa using this
theorem or_of (i g : Nat) (hi : i < 65536) (hg : g < 65536) : bits .or .u64 ((g * 65536 : Nat) : Int) (i : Nat) = ((i + 65536 * g : Nat) : Int) := by
  rw [or_nat _ _ (by omega) (by omega), show g * 65536 = g <<< 16 from by rw [Nat.shiftLeft_eq], ← Nat.shiftLeft_add_eq_or_of_lt (by omega : i < 2 ^ 16), Nat.shiftLeft_eq]
  congr 1
  omega
theorem of_any (i g : Int) (w : World) (hi : -9223372036854775808 ≤ i ∧ i ≤ 9223372036854775807) (hg : -9223372036854775808 ≤ g ∧ g ≤ 9223372036854775807) :
    Calls Tryz.prog 135 #[.int .i64 i, .int .i64 g] w fun e w' => e = .returned (.int .u64 (ofN i g : Nat)) ∧ w = w' := by
  by_cases h1 : i < 1
  · rw [of_out (by omega)]
    go_enter Tryz.func135, Tryz.ntmps135
    go_wp2
    go_ret
    exact ⟨rfl, rfl⟩
  · by_cases h2 : 4096 < i
    · rw [of_out (by omega)]
      go_enter Tryz.func135, Tryz.ntmps135
      go_wp2
      go_ret
      exact ⟨rfl, rfl⟩
    · by_cases h3 : g < 1
      · rw [of_out (by omega)]
        go_enter Tryz.func135, Tryz.ntmps135
        go_wp2
        go_ret
        exact ⟨rfl, rfl⟩
      · by_cases h4 : 65535 < g
        · rw [of_out (by omega)]
          go_enter Tryz.func135, Tryz.ntmps135
          go_wp2
          go_ret
          exact ⟨rfl, rfl⟩
        · rw [of_in (by omega)]
          obtain ⟨x, rfl⟩ : ∃ x : Nat, i = x := ⟨i.toNat, by omega⟩
          obtain ⟨y, rfl⟩ : ∃ y : Nat, g = y := ⟨g.toNat, by omega⟩
          have E : Hid (bits .or .u64 ((y : Int) * 65536) (x : Int) = (((x : Int) + 65536 * (y : Int)).toNat : Nat)) := by
            have := or_of x y (by omega) (by omega)
            show _ = _
            rw [show (y : Int) * 65536 = ((y * 65536 : Nat) : Int) from by omega, this]
            omega
          go_enter Tryz.func135, Tryz.ntmps135
          go_wp2
          go_ret
          exact ⟨ret_int (E.out.trans (by omega)), rfl⟩

set_option maxHeartbeats 1000000 in
theorem hsame_true (a b : Option Addr) (c d : Nat) (xs : List HRw) (w : World) (h1 : IsW w a xs) (h2 : IsW w b xs) (hx : xs.length ≤ 9223372036854775807) :
    Calls Tryz.prog 45 #[.slice a xs.length c, .slice b xs.length d] w fun e w' => e = .returned (.bool true) ∧ ∃ m, w' = w.drewN m := by
  have H1 : Hid (IsW w a xs) := h1
  have H2 : Hid (IsW w b xs) := h2
  clear h1 h2
  obtain ⟨l, hl⟩ : ∃ l, xs.length = l := ⟨_, rfl⟩
  have EL : Hid (xs.length = l) := hl
  rw [hl] at hx ⊢
  clear hl
  go_enter Tryz.func45, Tryz.ntmps45
  go_wp2
  go_loopw [13] (fun iv wr => ∃ i m : Nat, i ≤ l ∧ iv = .int .i64 (i : Nat) ∧ wr = w.drewN m) (fun iv _ => l - (intOf iv).toNat)
  case atStart => exact ⟨0, 0, Nat.zero_le _, rfl, rfl⟩
  case round =>
    obtain ⟨i, m, hi, rfl, rfl⟩ := hrel
    by_cases hlt : i < l
    · have hil : i < xs.length := by rw [EL.out]; exact hlt
      rcases H1.out with e | ⟨ab, ao, rfl, _, ha⟩
      · rw [e] at hil; simp at hil
      · rcases H2.out with e | ⟨bb, bo, rfl, _, hb⟩
        · rw [e] at hil; simp at hil
        · obtain ⟨a0, a1, a2, a3⟩ := ha i hil
          obtain ⟨b0, b1, b2, b3⟩ := hb i hil
          obtain ⟨x, hxx⟩ : ∃ x, xs[i]'hil = x := ⟨_, rfl⟩
          rw [hxx] at a0 a1 a2 a3 b0 b1 b2 b3
          have e1 : (i : Int) < (l : Int) := by omega
          have e0 : (0 : Int) ≤ (i : Nat) := by omega
          clear ha hb hxx
          have t0 : (w.drewN m).cell? ⟨ab, ao + i * 4, none⟩ = some (.int .i64 x.gen) := a0
          have t1 : (w.drewN m).cell? ⟨ab, ao + i * 4 + 1, none⟩ = some (.bool x.live) := a1
          have t2 : (w.drewN m).cell? ⟨ab, ao + i * 4 + 2, none⟩ = some (.int .i64 x.kind) := a2
          have t3 : (w.drewN m).cell? ⟨ab, ao + i * 4 + 3, none⟩ = some (.int .i64 x.pl) := a3
          have u0 : (w.drewN m).cell? ⟨bb, bo + i * 4, none⟩ = some (.int .i64 x.gen) := b0
          have u1 : (w.drewN m).cell? ⟨bb, bo + i * 4 + 1, none⟩ = some (.bool x.live) := b1
          have u2 : (w.drewN m).cell? ⟨bb, bo + i * 4 + 2, none⟩ = some (.int .i64 x.kind) := b2
          have u3 : (w.drewN m).cell? ⟨bb, bo + i * 4 + 3, none⟩ = some (.int .i64 x.pl) := b3
          go_wp2_with fail
          go_quiet (fail)
          go_wp2
          go_roundw
          case rel => exact ⟨i + 1, _, by omega, by go_num, rfl⟩
          case measure => simp [intOf]; omega
    · obtain rfl : i = l := by omega
      go_wp2
      go_ret
      exact ⟨rfl, _, rfl⟩
end Go.Proofs.YtgdjlopnhecmjaaGreatDoor

/- Rows of moves; what tell, within and Where do. -/
namespace Go.Proofs.YtgdjlopnhecmjaaGreatDoor
open Go.RowKit
set_option linter.unusedVariables false
set_option maxRecDepth 4000

end Go.Proofs.YtgdjlopnhecmjaaGreatDoor

/- Spans that stand, in memory. -/
namespace Go.Proofs.YtgdjlopnhecmjaaGreatDoor
open Go.RowKit
set_option linter.unusedVariables false
set_option maxRecDepth 4000

end Go.Proofs.YtgdjlopnhecmjaaGreatDoor

/- Which spans may stand: stand. -/
namespace Go.Proofs.YtgdjlopnhecmjaaGreatDoor
open Go.RowKit
set_option linter.unusedVariables false
set_option maxRecDepth 4000

end Go.Proofs.YtgdjlopnhecmjaaGreatDoor

/- Spans that stand: how they are kept and turned; those of a class. -/
namespace Go.Proofs.YtgdjlopnhecmjaaGreatDoor
open Go.RowKit
set_option linter.unusedVariables false
set_option maxRecDepth 4000

end Go.Proofs.YtgdjlopnhecmjaaGreatDoor

/- All slots given back: lift. -/
namespace Go.Proofs.YtgdjlopnhecmjaaGreatDoor
open Go.RowKit
set_option linter.unusedVariables false
set_option maxRecDepth 4000

end Go.Proofs.YtgdjlopnhecmjaaGreatDoor

/- A class gathered. -/
namespace Go.Proofs.YtgdjlopnhecmjaaGreatDoor
open Go.RowKit
set_option linter.unusedVariables false
set_option maxRecDepth 4000

theorem OwnsI.kind {w : World} {B : Nat} {a : Option Addr} {l : List Int} {c : Nat} (h : OwnsI w B a l c) : ∀ k, ob a = some k → ∃ cur, w.heap[k]? = some (.cells cur 3 (0, 0)) := fun k hk => by
  obtain ⟨_, ⟨h1, _⟩ | ⟨g', c', cur', h1, _, h2, _⟩⟩ := h
  · injection h1 with e1; subst e1; cases hk
  · cases h1; cases hk
    exact ⟨_, h2⟩
end Go.Proofs.YtgdjlopnhecmjaaGreatDoor

/- The spans closed up. -/
namespace Go.Proofs.YtgdjlopnhecmjaaGreatDoor
open Go.RowKit
set_option linter.unusedVariables false
set_option maxRecDepth 4000

end Go.Proofs.YtgdjlopnhecmjaaGreatDoor

/- The place that a place comes to. -/
namespace Go.Proofs.YtgdjlopnhecmjaaGreatDoor
open Go.RowKit
set_option linter.unusedVariables false
set_option maxRecDepth 4000

end Go.Proofs.YtgdjlopnhecmjaaGreatDoor

/- The document's place that a place comes to; the same moves. -/
namespace Go.Proofs.YtgdjlopnhecmjaaGreatDoor
open Go.RowKit
set_option linter.unusedVariables false
set_option maxRecDepth 4000

end Go.Proofs.YtgdjlopnhecmjaaGreatDoor

/- The document's Copy of spans that are told. -/
namespace Go.Proofs.YtgdjlopnhecmjaaGreatDoor
open Go.RowKit
set_option linter.unusedVariables false
set_option maxRecDepth 4000

end Go.Proofs.YtgdjlopnhecmjaaGreatDoor

/- Plain mathematics of layer 13: what was slid together stands, and is slid no more. -/
namespace Go.Proofs.YtgdjlopnhecmjaaGreatDoor
set_option linter.unusedVariables false
set_option maxRecDepth 4000

end Go.Proofs.YtgdjlopnhecmjaaGreatDoor

/- Plain mathematics of layer 13: what a plan tells is slid together. -/
namespace Go.Proofs.YtgdjlopnhecmjaaGreatDoor
set_option linter.unusedVariables false
set_option maxRecDepth 4000

end Go.Proofs.YtgdjlopnhecmjaaGreatDoor

/- Plain mathematics of layer 13: all moves go downwards. -/
namespace Go.Proofs.YtgdjlopnhecmjaaGreatDoor
set_option linter.unusedVariables false
set_option maxRecDepth 4000

end Go.Proofs.YtgdjlopnhecmjaaGreatDoor

/- What Plan answers, said ahead; Right; the document's example. -/
namespace Go.Proofs.YtgdjlopnhecmjaaGreatDoor
open Go.RowKit
set_option linter.unusedVariables false
set_option maxRecDepth 4000

end Go.Proofs.YtgdjlopnhecmjaaGreatDoor

/- A view: its numbers, the seven rules, and how it lies in memory. -/
namespace Go.Proofs.YtgdjlopnhecmjaaGreatDoor
open Go.RowKit
set_option linter.unusedVariables false
set_option maxRecDepth 4000

/-- A kind's numbers. -/
structure Kn where
  (s : Int) (l : List Int)
/-- A view's numbers. -/
structure Vw where
  (base pgs : Int) (ks : List Kn) (rs : List HRw) (ts : List Td) (bs : List Int)
def knD (ks : List Kn) (i : Nat) : Kn := ks.getD i ⟨0, []⟩
def rwD (rs : List HRw) (i : Nat) : HRw := rs.getD i ⟨0, false, 0, 0⟩
theorem rwD_at {rs : List HRw} {i : Nat} (h : i < rs.length) : rwD rs i = rs[i] := by simp [rwD, List.getD, h]
def wordV (bs : List Int) (o : Int) : Int := getL ((bs.drop o.toNat).take 8)
/-- Where a view's lists lie. -/
structure Va where
  (ka ra sa ba : Option Addr) (kn rn sn bn kc rc sc bc : Nat)
/-- Kinds that can be read. -/
def RdK (w : World) (a : Option Addr) (ks : List Kn) : Prop := ∀ i (h : i < ks.length), ∃ (g o : Nat) (la : Option Addr) (lc : Nat), a = some ⟨g, o, none⟩ ∧ w.cell? ⟨g, o + i * 2, none⟩ = some (.int .i64 ks[i].s) ∧ w.cell? ⟨g, o + i * 2 + 1, none⟩ = some (.slice la ks[i].l.length lc) ∧ IsI w la ks[i].l ∧ (la = none → ks[i].l = [] ∧ lc = 0) ∧ ks[i].l.length ≤ maxLen
theorem RdK.keep {w w' : World} {a : Option Addr} {ks : List Kn} (h : RdK w a ks) (hb : Below w.heap.size w w') : RdK w' a ks := fun i hi => by
  obtain ⟨g, o, la, lc, e, c0, c1, hI, hn, hm⟩ := h i hi
  exact ⟨g, o, la, lc, e, bcell hb c0, bcell hb c1, hI.keep hb, hn, hm⟩
def i64 (x : Int) : Prop := -9223372036854775808 ≤ x ∧ x ≤ 9223372036854775807
/-- A view that can be read. -/
structure Rv (w : World) (V : Vw) (A : Va) : Prop where
  kl : V.ks.length = A.kn
  rl : V.rs.length = A.rn
  sl : V.ts.length = A.sn
  bl : V.bs.length = A.bn
  ks : RdK w A.ka V.ks
  rs : IsW w A.ra V.rs
  ts : RdT w A.sa V.ts
  bs : IsB w A.ba V.bs
  bi : i64 V.base
  pi : i64 V.pgs
  ti : ∀ t ∈ V.ts, i64 t.p
  ri : ∀ r ∈ V.rs, i64 r.pl ∧ i64 r.kind ∧ i64 r.gen
  kz : V.ks.length ≤ 64
  rz : V.rs.length ≤ 300
  tz : V.ts.length ≤ 64
  bz : V.bs.length ≤ 16384
  sk : A.sn ≤ A.sc ∧ A.sc ≤ 9223372036854775807
  bk : A.bn ≤ A.bc ∧ A.bc ≤ 9223372036854775807
theorem Rv.keep {w w' : World} {V : Vw} {A : Va} (h : Rv w V A) (hb : Below w.heap.size w w') : Rv w' V A :=
  ⟨h.kl, h.rl, h.sl, h.bl, h.ks.keep hb, h.rs.keep hb, h.ts.keep hb, h.bs.keep hb, h.bi, h.pi, h.ti, h.ri, h.kz, h.rz, h.tz, h.bz, h.sk, h.bk⟩
end Go.Proofs.YtgdjlopnhecmjaaGreatDoor

/- The first three rules asked: measured, kindRight, spanStands. -/
namespace Go.Proofs.YtgdjlopnhecmjaaGreatDoor
open Go.RowKit
set_option linter.unusedVariables false
set_option maxRecDepth 4000

theorem below_drewN {B : Nat} {a w : World} (h : Below B a w) (q : Nat) : Below B a (w.drewN q) := ⟨h.os, h.tape, h.output, h.size, h.block⟩
end Go.Proofs.YtgdjlopnhecmjaaGreatDoor

/- Plain mathematics of layer 14: the one span in which a place lies. -/
namespace Go.Proofs.YtgdjlopnhecmjaaGreatDoor
open Go.RowKit
set_option linter.unusedVariables false
set_option maxRecDepth 4000

end Go.Proofs.YtgdjlopnhecmjaaGreatDoor

/- The fourth rule asked: lies, rowRight. -/
namespace Go.Proofs.YtgdjlopnhecmjaaGreatDoor
open Go.RowKit
set_option linter.unusedVariables false
set_option maxRecDepth 4000

def rbox (r : HRw) : Obj := .cells #[.int .i64 r.gen, .bool r.live, .int .i64 r.kind, .int .i64 r.pl] 57
end Go.Proofs.YtgdjlopnhecmjaaGreatDoor

/- The fourth and the fifth rule asked: rowRight, rowAlone. -/
namespace Go.Proofs.YtgdjlopnhecmjaaGreatDoor
open Go.RowKit
set_option linter.unusedVariables false
set_option maxRecDepth 4000

theorem IsW.at {w : World} {a : Option Addr} {l : List HRw} (h : IsW w a l) (i : Nat) (hi : i < l.length) : ∃ b off, a = some ⟨b, off, none⟩ ∧ w.cell? ⟨b, off + i * 4, none⟩ = some (.int .i64 (rwD l i).gen) ∧ w.cell? ⟨b, off + i * 4 + 1, none⟩ = some (.bool (rwD l i).live) ∧ w.cell? ⟨b, off + i * 4 + 2, none⟩ = some (.int .i64 (rwD l i).kind) ∧ w.cell? ⟨b, off + i * 4 + 3, none⟩ = some (.int .i64 (rwD l i).pl) := by
  rcases h with h | ⟨b, off, e, _, hc⟩
  · subst h; cases hi
  · rw [rwD_at hi]
    exact ⟨b, off, e, hc i hi⟩
end Go.Proofs.YtgdjlopnhecmjaaGreatDoor

/- The sixth rule asked: slotsTold. -/
namespace Go.Proofs.YtgdjlopnhecmjaaGreatDoor
open Go.RowKit Go.Maps
set_option linter.unusedVariables false
set_option maxRecDepth 4000

end Go.Proofs.YtgdjlopnhecmjaaGreatDoor

/- Plain mathematics of layer 14: where a live row's object lies, its pointer fields, and what they lead to. -/
namespace Go.Proofs.YtgdjlopnhecmjaaGreatDoor
open Go.RowKit
set_option linter.unusedVariables false
set_option maxRecDepth 4000

end Go.Proofs.YtgdjlopnhecmjaaGreatDoor

/- nameOf, named, bytesOf. -/
namespace Go.Proofs.YtgdjlopnhecmjaaGreatDoor
open Go.RowKit Go.Maps
set_option linter.unusedVariables false
set_option maxRecDepth 4000

end Go.Proofs.YtgdjlopnhecmjaaGreatDoor

/- The document's owner and word. -/
namespace Go.Proofs.YtgdjlopnhecmjaaGreatDoor
open Go.RowKit
set_option linter.unusedVariables false
set_option maxRecDepth 4000

/-- A view in a box. -/
theorem vbox (w : World) (V : Vw) (A : Va) : ∃ E, w.alloc (.cells #[.int .i64 V.base, .int .i64 V.pgs, .slice A.ka A.kn A.kc, .slice A.ra A.rn A.rc, .slice A.sa A.sn A.sc, .slice A.ba A.bn A.bc] 54) = E ∧ Below w.heap.size w E ∧ E.heap[w.heap.size]? = some (.cells #[.int .i64 V.base, .int .i64 V.pgs, .slice A.ka A.kn A.kc, .slice A.ra A.rn A.rc, .slice A.sa A.sn A.sc, .slice A.ba A.bn A.bc] 54 (0, 0)) :=
  ⟨_, rfl, (Below.refl _ w).alloc (Nat.le_refl _) _, Go.heap_alloc_new w _⟩
end Go.Proofs.YtgdjlopnhecmjaaGreatDoor

/- The document's Same, of objects that read alike. -/
namespace Go.Proofs.YtgdjlopnhecmjaaGreatDoor
open Go.RowKit
set_option linter.unusedVariables false
set_option maxRecDepth 4000

end Go.Proofs.YtgdjlopnhecmjaaGreatDoor

/- What can be seen of a view's objects, as numbers. -/
namespace Go.Proofs.YtgdjlopnhecmjaaGreatDoor
open Go.RowKit
set_option linter.unusedVariables false
set_option maxRecDepth 4000

theorem over_len {l : List Int} {o : Nat} {b : List Int} (h : o + b.length ≤ l.length) : (overR l o b).length = l.length := by
  unfold overR; simp; omega
def psOf (V : Vw) (i : Nat) : List Int := (knD V.ks (rwD V.rs i).kind.toNat).l
end Go.Proofs.YtgdjlopnhecmjaaGreatDoor

/- The document's Lay: eight bytes of a number, at a place. -/
namespace Go.Proofs.YtgdjlopnhecmjaaGreatDoor
open Go.RowKit
set_option linter.unusedVariables false
set_option maxRecDepth 4000

theorem putL_len (k : Nat) : ∀ n, (putL k n).length = k := by
  induction k with
  | zero => intro n; rfl
  | succ k ih => intro n; simp [putL, ih]
end Go.Proofs.YtgdjlopnhecmjaaGreatDoor

/- Plain mathematics of AuditLost: slots lie apart, a row that is taken out, a field that leads between objects. -/
namespace Go.Proofs.YtgdjlopnhecmjaaGreatDoor
open Go.RowKit
set_option linter.unusedVariables false
set_option maxRecDepth 4000

end Go.Proofs.YtgdjlopnhecmjaaGreatDoor

/- The seventh rule asked: fieldsLead. -/
namespace Go.Proofs.YtgdjlopnhecmjaaGreatDoor
open Go.RowKit Go.Maps
set_option linter.unusedVariables false
set_option maxRecDepth 4000

end Go.Proofs.YtgdjlopnhecmjaaGreatDoor

/- Plain mathematics of AuditMoves: pointer fields turned to another base. -/
namespace Go.Proofs.YtgdjlopnhecmjaaGreatDoor
open Go.RowKit
set_option linter.unusedVariables false
set_option maxRecDepth 4000

/-- Where the pointer fields of the first rows begin. -/
def fldR (V : Vw) (i : Nat) : List Int := (psOf V i).map (fun p => (rwD V.rs i).pl + p)
def fldU (V : Vw) : Nat → List Int
  | 0 => []
  | n + 1 => fldU V n ++ (if (rwD V.rs n).live = true then fldR V n else [])
end Go.Proofs.YtgdjlopnhecmjaaGreatDoor

/- How many pages objects need: Need -/
namespace Go.Proofs.YtgdjlopnhecmjaaGreatDoor
open Go.RowKit
set_option linter.unusedVariables false
set_option maxRecDepth 4000

end Go.Proofs.YtgdjlopnhecmjaaGreatDoor

/- Plain mathematics of layer 13: behind a plan as many pages are taken as the objects need; at most one span of a class is filled in part. -/
namespace Go.Proofs.YtgdjlopnhecmjaaGreatDoor
set_option linter.unusedVariables false
set_option maxRecDepth 4000

end Go.Proofs.YtgdjlopnhecmjaaGreatDoor

/- Plain mathematics of SlideKeeps: what moves bring along. -/
namespace Go.Proofs.YtgdjlopnhecmjaaGreatDoor
set_option linter.unusedVariables false
set_option maxRecDepth 4000

end Go.Proofs.YtgdjlopnhecmjaaGreatDoor

/- Plain mathematics of SlideKeeps: the list of the objects. -/
namespace Go.Proofs.YtgdjlopnhecmjaaGreatDoor
set_option linter.unusedVariables false
set_option maxRecDepth 4000

end Go.Proofs.YtgdjlopnhecmjaaGreatDoor

/- Plain mathematics of SlideKeeps: what the law asks. -/
namespace Go.Proofs.YtgdjlopnhecmjaaGreatDoor
set_option linter.unusedVariables false
set_option maxRecDepth 4000

end Go.Proofs.YtgdjlopnhecmjaaGreatDoor

/- Plain mathematics of AuditSlides: which slot comes to which, and the bytes behind all moves. -/
namespace Go.Proofs.YtgdjlopnhecmjaaGreatDoor
open Go.RowKit
set_option linter.unusedVariables false
set_option maxRecDepth 4000

end Go.Proofs.YtgdjlopnhecmjaaGreatDoor

/- Plain mathematics of AuditSlides: a view whose objects have other places, the same bytes, and fields that lead to the new places. -/
namespace Go.Proofs.YtgdjlopnhecmjaaGreatDoor
open Go.RowKit
set_option linter.unusedVariables false
set_option maxRecDepth 4000

end Go.Proofs.YtgdjlopnhecmjaaGreatDoor

/- Plain mathematics of layer 15: a sound view whose bytes are turned: by bytes laid into an object, by a field that is made to lead elsewhere, by noughts where no object lies. -/
namespace Go.Proofs.YtgdjlopnhecmjaaGreatDoor
open Go.RowKit
set_option linter.unusedVariables false
set_option maxRecDepth 4000

/-! ### bytes laid into an object -/
/-! ### a field made to lead elsewhere -/
end Go.Proofs.YtgdjlopnhecmjaaGreatDoor

/- Plain mathematics of layer 15: an object more, an object less. -/
namespace Go.Proofs.YtgdjlopnhecmjaaGreatDoor
open Go.RowKit
set_option linter.unusedVariables false
set_option maxRecDepth 4000

end Go.Proofs.YtgdjlopnhecmjaaGreatDoor

/- Plain mathematics of layer 15: each field that leads to an object made to lead to none; the same objects in other spans. -/
namespace Go.Proofs.YtgdjlopnhecmjaaGreatDoor
open Go.RowKit
set_option linter.unusedVariables false
set_option maxRecDepth 4000

/-- A field, if this address is in it, made 0. -/
def unS (g : Int) (b : List Int) (x : Int) : List Int := if wordV b x = g then overR b x.toNat (putL 8 0) else b
def unL (g : Int) (l b : List Int) : List Int := l.foldl (unS g) b
/-- Where a field may lie. -/
def FdU (n : Nat) (x : Int) : Prop := 0 ≤ x ∧ x + 8 ≤ (n : Int)
theorem unS_len {g : Int} {b : List Int} {x : Int} (h : FdU b.length x) : (unS g b x).length = b.length := by
  unfold unS
  unfold FdU at h
  split
  · exact over_len (by rw [putL_len]; omega)
  · rfl
theorem unL_snoc (g : Int) (l b : List Int) (x : Int) : unL g (l ++ [x]) b = unS g (unL g l b) x := by
  unfold unL; rw [List.foldl_append]; rfl
theorem unL_len {g : Int} : ∀ (l b : List Int), (∀ x ∈ l, FdU b.length x) → (unL g l b).length = b.length
  | [], b, _ => rfl
  | x :: l, b, h => by
    have hx := h x List.mem_cons_self
    have e := unS_len (g := g) hx
    show (unL g l (unS g b x)).length = _
    rw [unL_len l _ (fun y hy => by rw [e]; exact h y (List.mem_cons_of_mem _ hy)), e]
end Go.Proofs.YtgdjlopnhecmjaaGreatDoor
