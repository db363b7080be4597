/- Layer 17: RoI again -/
import Derived.Test.YtbajchidpffbpaaDoorAuB
import Derived.Test.YtbajchidpffbpaaDoorMhA
import Derived.Test.YtbajchidpffbpaaDoorJrRoH
import Derived.Test.YtbajchidpffbpaaDoorGtH
namespace Go.Proofs.YtbajchidpffbpaaDoor
open Go.RowKit
set_option linter.unusedVariables false
set_option maxRecDepth 4000
theorem rhlt {w : World} {g : Nat} {o : Obj} (h : w.heap[g]? = some o) : g < w.heap.size := (Array.getElem?_eq_some_iff.1 h).1
/-- A block that begins with these bytes. -/
def rByk (w : World) (g : Nat) (l : List Int) : Prop := ∃ cur, w.heap[g]? = some (.cells cur 5 (0, 0)) ∧ cur.toList.take l.length = cellsB l
theorem rByk.lt {w : World} {g : Nat} {l : List Int} (h : rByk w g l) : g < w.heap.size := by
  obtain ⟨cur, h, _⟩ := h; exact rhlt h
theorem rByk.at {cur : Array Value} {l : List Int} (h : cur.toList.take l.length = cellsB l) (i : Nat) (hi : i < l.length) : cur[i]? = some (.int .u8 (l.getD i 0)) := by
  have e := cellsB_at l i hi
  rw [← h, List.getElem?_take_of_lt hi] at e
  simpa using e
theorem rByk.size {cur : Array Value} {l : List Int} (h : cur.toList.take l.length = cellsB l) : l.length ≤ cur.size := by
  have := congrArg List.length h
  rw [cellsB_len, List.length_take] at this
  have e : cur.toList.length = cur.size := Array.length_toList
  omega
theorem rByk.cell {w : World} {g : Nat} {l : List Int} (h : rByk w g l) (i : Nat) (hi : i < l.length) : w.cell? ⟨g, i, none⟩ = some (.int .u8 (l.getD i 0)) := by
  obtain ⟨cur, h, k⟩ := h
  rw [cell_of_row w g i _ _ _ h]; exact rByk.at k i hi
theorem rByk.thawed {w : World} {g : Nat} {l : List Int} (h : rByk w g l) (i : Nat) : w.frozen? ⟨g, i, none⟩ = false := by
  obtain ⟨cur, h, k⟩ := h; exact frozen_of_row w g i _ 5 h
theorem rByk.same {w w' : World} {g : Nat} {l : List Int} (h : rByk w g l) (hb : ∀ o, w.heap[g]? = some o → w'.heap[g]? = some o) : rByk w' g l := by
  obtain ⟨cur, h, k⟩ := h; exact ⟨cur, hb _ h, k⟩
theorem rByk.keep {w w' : World} {g : Nat} {l : List Int} (h : rByk w g l) (hb : Below w.heap.size w w') : rByk w' g l := h.same (fun o ho => by rw [hb.block g (rhlt ho)]; exact ho)
theorem rByk.part {w : World} {g : Nat} {l : List Int} (h : rByk w g l) (hb : AllB l) (o k : Nat) (hf : o + k ≤ l.length) : IsB w (some ⟨g, o, none⟩) ((l.drop o).take k) := by
  refine ⟨(hb.drop o).take k, .inr ⟨g, o, rfl, h.lt, fun i hi => ?_⟩⟩
  simp at hi
  rw [h.cell (o + i) (by omega)]
  simp [List.getD_eq_getElem?_getD, List.getElem?_drop, show i < k by omega]
theorem rByk.isB {w : World} {g : Nat} {l : List Int} (h : rByk w g l) (hb : AllB l) : IsB w (some ⟨g, 0, none⟩) l :=
  ⟨hb, .inr ⟨g, 0, rfl, h.lt, fun i hi => by rw [Nat.zero_add]; exact h.cell i hi⟩⟩
theorem rByk.set {w : World} {g : Nat} {l : List Int} (h : rByk w g l) (i : Nat) (v : Int) (hi : i < l.length) : rByk (w.setCell ⟨g, i, none⟩ (.int .u8 v)) g (l.set i v) := by
  obtain ⟨cur, h, k⟩ := h
  refine ⟨cur.setIfInBounds i (.int .u8 v), heap_setCell_same w g i _ _ (.int .u8 v) h, ?_⟩
  rw [List.length_set, Array.toList_setIfInBounds, List.take_set, k]
  simp [cellsB, List.map_set]
theorem OwnsB.bkR {w : World} {base g : Nat} {l : List Int} {cap : Nat} (h : OwnsB w base (some ⟨g, 0, none⟩) l cap) : rByk w g l := by
  obtain ⟨h0, ⟨h1, _⟩ | ⟨g', c', cur, h1, _, h2, h3, h4, h5, h6⟩⟩ := h
  · cases h1
  · cases h1
    rw [Nat.mul_one] at h6
    exact ⟨cur, h2, h6⟩
/-- So many bytes have been laid. -/
def rmidR (l : List Int) (o : Nat) (bs : List Int) (i : Nat) : List Int := l.take o ++ bs.take i ++ l.drop (o + i)
theorem rmidR_len {l : List Int} {o : Nat} {bs : List Int} {i : Nat} (hi : i ≤ bs.length) (h : o + bs.length ≤ l.length) : (rmidR l o bs i).length = l.length := by
  unfold rmidR; simp; omega
theorem rmidR_zero (l : List Int) (o : Nat) (bs : List Int) : rmidR l o bs 0 = l := by simp [rmidR]
theorem rmidR_full (l : List Int) (o : Nat) (bs : List Int) : rmidR l o bs bs.length = overR l o bs := by simp [rmidR, overR]
theorem rmidR_set {l : List Int} {o : Nat} {bs : List Int} {i : Nat} (hi : i < bs.length) (h : o + bs.length ≤ l.length) : (rmidR l o bs i).set (o + i) (bs.getD i 0) = rmidR l o bs (i + 1) := by
  have e : l.drop (o + i) = l[o + i]'(by omega) :: l.drop (o + i + 1) := List.drop_eq_getElem_cons (by omega)
  have hl : (l.take o ++ bs.take i).length = o + i := by simp; omega
  unfold rmidR
  rw [e, List.set_append_right _ _ (by omega), hl, Nat.sub_self, List.set_cons_zero, List.take_succ_eq_append_getElem hi, ← Nat.add_assoc, List.getD_eq_getElem?_getD, List.getElem?_eq_getElem hi, Option.getD_some, List.append_assoc, List.append_assoc, List.append_assoc]
  rfl

/-- What the document's Apply leaves behind. -/
def ApplyQ (w : World) (R : List Int) (E : Int) (e : Ending) (w' : World) : Prop :=
  ∃ a' c', e = .returned (.tuple #[.slice a' R.length c', .int .i64 E]) ∧ IsB w' a' R ∧ Below w.heap.size w w'
/-- Under way. -/
structure ApB (w wr : World) (b l : List Int) (fr t n : Int) (g k : Nat) : Prop where
  row : rByk wr g (goT fr t b (l.take k) b)
  below : Below w.heap.size w wr
  ge : w.heap.size ≤ g
  all : allT fr n b (l.take k) = true
theorem ApB.stay {w wr : World} {b l : List Int} {fr t n : Int} {g k : Nat} (h : ApB w wr b l fr t n g k) (hk : k < l.length) (h0 : wordT b (l.getD k 0) = 0) : ApB w wr b l fr t n g (k + 1) := by
  refine ⟨?_, h.below, h.ge, ?_⟩
  · rw [goT_take fr t b l b k hk, stepT, if_pos h0]; exact h.row
  · rw [allT_snoc hk, h.all, h0]; simp [inT]
theorem ApB.next {w wr w1 : World} {b l : List Int} {fr t n : Int} {g k : Nat} (h : ApB w wr b l fr t n g k) (hk : k < l.length) (h0 : wordT b (l.getD k 0) ≠ 0) (hin : inT fr n (wordT b (l.getD k 0)))
    (hr : rByk w1 g (overR (goT fr t b (l.take k) b) (l.getD k 0).toNat (putL 8 (wordT b (l.getD k 0) - fr + t)))) (hb : Below w.heap.size wr w1) : ApB w w1 b l fr t n g (k + 1) := by
  refine ⟨?_, h.below.trans hb, h.ge, ?_⟩
  · rw [goT_take fr t b l b k hk, stepT, if_neg h0]; exact hr
  · rw [allT_snoc hk, h.all, decide_eq_true hin]; rfl
end Go.Proofs.YtbajchidpffbpaaDoor
