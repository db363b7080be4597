/- Plain mathematics of layer 17: images, their bytes, and what bytes are read as an image. -/
import Derived.Test.YtbfamjnnlcopiaaGreatDoorGzAJ
import Derived.Test.YtbfamjnnlcopiaaGreatDoorAuA
import Derived.Maps.AppendAt
import Derived.Lib.AppendZerosOnto
import Derived.Lib.SmallJoins
import Derived.Deep.RegionLaw
import Derived.Maps.Ext
import Derived.Maps.RangeWalk
namespace Go.Proofs.YtbfamjnnlcopiaaGreatDoor
set_option linter.unusedVariables false
set_option maxRecDepth 4000

/-- An image: the span's numbers and live slots, the base, the places, the bytes. -/
structure Im where
  p : Int
  c : Int
  s : Int
  live : List Int
  base : Int
  offs : List Int
  bytes : List Int
def noIm : Im := ⟨0, 0, 0, [], 0, [], []⟩
/-- A span that may be, with these live slots. -/
def spOk (p c s : Int) (live : List Int) : Bool := decide (newE p c s = 0) && okL (slN c) (-1) live
/-- How many bytes an image of a span has. -/
def sizeG (p c s : Int) (live : List Int) : Int := if spOk p c s live = true then (live.length : Int) * szI c s else 0
/-- An image that is right. -/
def rightG (m : Im) : Bool := spOk m.p m.c m.s m.live && (decide ((m.bytes.length : Int) = sizeG m.p m.c m.s m.live) && (rrightT m.bytes.length m.offs && decide (goodR m.base ∨ (m.base = 0 ∧ m.offs = []))))
/-- The bytes of the set of the live slots. -/
def bitsG (c : Int) (live : List Int) : List Int := bysL (fOf live) ((slN c + 7) / 8)
/-- The bytes of an image. -/
def bodyG (m : Im) : List Int := varL m.p ++ (varL m.c ++ (varL m.s ++ (bitsG m.c m.live ++ (varL (m.base / 256) ++ (bytesT m.offs ++ m.bytes)))))

theorem spOk_iff {p c s : Int} {live : List Int} : spOk p c s live = true ↔ newE p c s = 0 ∧ okL (slN c) (-1) live = true := by simp [spOk]
theorem right_parts {m : Im} : rightG m = true ↔ spOk m.p m.c m.s m.live = true ∧ (m.bytes.length : Int) = sizeG m.p m.c m.s m.live ∧ rrightT m.bytes.length m.offs = true ∧ (goodR m.base ∨ (m.base = 0 ∧ m.offs = [])) := by
  simp [rightG]
theorem live_le {n : Nat} {l : List Int} (h : okL n (-1) l = true) : l.length ≤ n := by
  have e := ls_of h
  rw [← e, lsL_len]
  exact cnt_le _ _
theorem size_bd {p c s : Int} {live : List Int} (h : spOk p c s live = true) : sizeG p c s live = (live.length : Int) * szI c s ∧ 0 ≤ sizeG p c s live ∧ sizeG p c s live ≤ 4096 := by
  obtain ⟨h1, h2⟩ := spOk_iff.1 h
  obtain ⟨f1, f2, f3, f4, f5, f6, f7, f8, _⟩ := (newE_rt h1).facts
  have hl := live_le h2
  have e : sizeG p c s live = (live.length : Int) * szI c s := if_pos h
  have h3 : 0 ≤ (live.length : Int) * szI c s := Int.mul_nonneg (by omega) (by omega)
  have h4 : (live.length : Int) * szI c s ≤ (slN c : Int) * szI c s := Int.mul_le_mul_of_nonneg_right (by omega) (by omega)
  rw [e]
  exact ⟨rfl, h3, by omega⟩
theorem size_range (p c s : Int) (live : List Int) : 0 ≤ sizeG p c s live ∧ sizeG p c s live ≤ 4096 := by
  cases h : spOk p c s live
  · have e : sizeG p c s live = 0 := if_neg (by rw [h]; decide)
    omega
  · exact ⟨(size_bd h).2.1, (size_bd h).2.2⟩
theorem placed_mono {s s' : Int} (hs : s ≤ s') : ∀ (l : List Int) (f : Int), placedB s f l = true → placedB s' f l = true
  | [], _, _ => by rw [placedB]
  | p :: l, f, h => by
    simp only [placedB, Bool.and_eq_true, decide_eq_true_eq] at h ⊢
    exact ⟨by omega, placed_mono hs l _ h.2⟩
theorem right_wide {n : Int} {l : List Int} (hn : n ≤ 65535) (h : rrightT n l = true) : rrightT 65535 l = true := by
  obtain ⟨h1, h2⟩ := right_iff.1 h
  exact right_iff.2 ⟨h1, placed_mono (by omega) l 0 h2⟩

/-! ### bits -/
/-- No bit behind the places. -/
def bitsOk (n : Nat) (l : List Int) : Bool := (List.range (8 * l.length)).all (fun i => !fB l i || decide (i < n))
theorem bitsOk_iff {n : Nat} {l : List Int} : bitsOk n l = true ↔ ∀ i, fB l i = true → i < n := by
  unfold bitsOk
  rw [List.all_eq_true]
  refine ⟨fun h i hi => ?_, fun h i _ => ?_⟩
  · have := h i (List.mem_range.2 (fB_lt l i hi))
    rw [hi] at this
    simpa using this
  · cases hi : fB l i
    · rfl
    · simpa using h i hi
theorem bitsOk_no {n : Nat} {l : List Int} {i : Nat} (h : fB l i = true) (hi : n ≤ i) : bitsOk n l = false := by
  cases hb : bitsOk n l
  · rfl
  · exact absurd (bitsOk_iff.1 hb i h) (by omega)
theorem bits_there {n : Nat} {live : List Int} (h : okL n (-1) live = true) : bitsOk n (bysL (fOf live) ((n + 7) / 8)) = true ∧ lsL (fB (bysL (fOf live) ((n + 7) / 8))) n = live := by
  have e := fB_bys (fOf live) n (fOf_within h) (bysL (fOf live) ((n + 7) / 8)) (bysL_len _ _) (fun j hj => bysL_at _ _ j hj)
  refine ⟨bitsOk_iff.2 fun i hi => fOf_within h i (by rw [← e i]; exact hi), ?_⟩
  rw [lsL_congr (fun i _ => e i), ls_of h]
theorem bys_byte (f : Nat → Bool) (k : Nat) : AllB (bysL f k) := by
  intro x hx
  obtain ⟨j, _, rfl⟩ := List.mem_map.1 hx
  have := byt_lt f j
  omega

/-! ### reading -/
/-- A number is read, and what is done with it; or a fault. -/
def bindU {α : Type} (l : List Int) (most : Int) (k : Int → List Int → α) (bad : Int → α) : α := if (upS l 0 most).2.2 = 0 then k (upS l 0 most).1 (upS l 0 most).2.1 else bad (upS l 0 most).2.2
theorem bindU_ok {α : Type} {l r : List Int} {most n : Int} {k : Int → List Int → α} {bad : Int → α} (h : upS l 0 most = (n, r, 0)) : bindU l most k bad = k n r := by
  unfold bindU; rw [h]; exact if_pos rfl
theorem bindU_bad {α : Type} {l r : List Int} {most n e : Int} {k : Int → List Int → α} {bad : Int → α} (h : upS l 0 most = (n, r, e)) (he : e ≠ 0) : bindU l most k bad = bad e := by
  unfold bindU; rw [h]; exact if_neg he
def badG (e : Int) : Im × Int := (noIm, e)
/-- Behind the table: the bytes, the end, and is it right? -/
def restG (p c s : Int) (live : List Int) (base : Int) (offs l : List Int) : Im × Int :=
  if (l.length : Int) < sizeG p c s live then badG 3 else if sizeG p c s live < l.length then badG 6 else if rightG ⟨p, c, s, live, base, offs, l⟩ = true then (⟨p, c, s, live, base, offs, l⟩, 0) else badG 4
/-- Behind the base: the table. -/
def tabG (p c s : Int) (live : List Int) (base : Int) (r : List Int) : Im × Int := if (readT r).2.2 = 0 then restG p c s live base (readT r).1 (readT r).2.1 else badG (readT r).2.2
/-- Behind the set: the base. -/
def tailG (p c s : Int) (live l : List Int) : Im × Int := bindU l 4294967296 (fun q r => tabG p c s live (256 * q) r) badG
/-- Behind the span's numbers: the set. -/
def setG (p c s : Int) (l : List Int) : Im × Int :=
  if (slN c + 7) / 8 ≤ l.length then (if bitsOk (slN c) (l.take ((slN c + 7) / 8)) = true then tailG p c s (lsL (fB (l.take ((slN c + 7) / 8))) (slN c)) (l.drop ((slN c + 7) / 8)) else badG 4) else badG 3
/-- What bytes are read as: an image, and the fault. -/
def readG (l : List Int) : Im × Int := bindU l 4095 (fun p l1 => bindU l1 7 (fun c l2 => bindU l2 4096 (fun s l3 => if newE p c s = 0 then setG p c s l3 else badG 4) badG) badG) badG

theorem rest_short {p c s base : Int} {live offs l : List Int} (h : (l.length : Int) < sizeG p c s live) : restG p c s live base offs l = badG 3 := if_pos h
theorem rest_long {p c s base : Int} {live offs l : List Int} (h : sizeG p c s live < l.length) : restG p c s live base offs l = badG 6 := by
  unfold restG; rw [if_neg (by omega), if_pos h]
theorem rest_fit {p c s base : Int} {live offs l : List Int} (h : (l.length : Int) = sizeG p c s live) : restG p c s live base offs l = if rightG ⟨p, c, s, live, base, offs, l⟩ = true then (⟨p, c, s, live, base, offs, l⟩, 0) else badG 4 := by
  unfold restG; rw [if_neg (by omega), if_neg (by omega)]
theorem tab_ok {p c s base : Int} {live offs r l : List Int} (h : readT r = (offs, l, 0)) : tabG p c s live base r = restG p c s live base offs l := by
  unfold tabG; rw [h]; exact if_pos rfl
theorem tab_bad {p c s base e : Int} {live offs r l : List Int} (h : readT r = (offs, l, e)) (he : e ≠ 0) : tabG p c s live base r = badG e := by
  unfold tabG; rw [h]; exact if_neg he
theorem set_short {p c s : Int} {l : List Int} (h : l.length < (slN c + 7) / 8) : setG p c s l = badG 3 := if_neg (by omega)
theorem set_form {p c s : Int} {l : List Int} (h : (slN c + 7) / 8 ≤ l.length) (hb : bitsOk (slN c) (l.take ((slN c + 7) / 8)) = false) : setG p c s l = badG 4 := by
  unfold setG; rw [if_pos h, if_neg (by rw [hb]; decide)]
theorem set_ok {p c s : Int} {l : List Int} (h : (slN c + 7) / 8 ≤ l.length) (hb : bitsOk (slN c) (l.take ((slN c + 7) / 8)) = true) : setG p c s l = tailG p c s (lsL (fB (l.take ((slN c + 7) / 8))) (slN c)) (l.drop ((slN c + 7) / 8)) := by
  unfold setG; rw [if_pos h, if_pos hb]

/-- What is written is read. -/
theorem read_backG {m : Im} (h : rightG m = true) : readG (bodyG m) = (m, 0) := by
  obtain ⟨h1, h2, h3, h4⟩ := right_parts.1 h
  obtain ⟨k1, k2⟩ := spOk_iff.1 h1
  have r := newE_rt k1
  obtain ⟨f1, f2, f3, f4, f5, f6, f7, f8, _⟩ := r.facts
  have hs : 0 ≤ m.s ∧ m.s ≤ 4096 := by
    by_cases hc : m.c < 7
    · have := r.sm hc; omega
    · have := r.lg (by have := r.c7; omega)
      have := pagesN_large this; omega
  have p0 := r.p0
  have p1 := r.p1
  have c0 := r.c0
  have c7 := r.c7
  have hsz := size_bd h1
  have ho : rrightT 65535 m.offs = true := right_wide (by omega) h3
  have hq : 0 ≤ m.base / 256 ∧ m.base / 256 ≤ 4294967296 ∧ 256 * (m.base / 256) = m.base := by
    rcases h4 with ⟨g1, g2, g3⟩ | ⟨g, _⟩
    · omega
    · rw [g]; decide
  obtain ⟨b1, b2⟩ := bits_there k2
  have hbl : (bitsG m.c m.live).length = (slN m.c + 7) / 8 := bysL_len _ _
  unfold readG bodyG
  rw [bindU_ok (up_back m.p 4095 _ p0 (by omega) (by omega)), bindU_ok (up_back m.c 7 _ c0 c7 (by omega)), bindU_ok (up_back m.s 4096 _ hs.1 hs.2 (by omega)), if_pos k1]
  have ht : ∀ more : List Int, (bitsG m.c m.live ++ more).take ((slN m.c + 7) / 8) = bitsG m.c m.live := fun more => by rw [← hbl, List.take_left]
  have hd : ∀ more : List Int, (bitsG m.c m.live ++ more).drop ((slN m.c + 7) / 8) = more := fun more => by rw [← hbl, List.drop_left]
  rw [set_ok (by rw [List.length_append, hbl]; omega) (by rw [ht]; exact b1), ht, hd]
  have e : lsL (fB (bitsG m.c m.live)) (slN m.c) = m.live := b2
  rw [e]
  unfold tailG
  rw [bindU_ok (up_back (m.base / 256) 4294967296 _ hq.1 hq.2.1 (by omega)), tab_ok (readT_back m.bytes ho), hq.2.2, rest_fit h2, if_pos h]
end Go.Proofs.YtbfamjnnlcopiaaGreatDoor

/- Rows and handles: memory and contracts, the code's and the document's -/
namespace Go.Proofs.YtbfamjnnlcopiaaGreatDoor
open Go.RowKit
set_option linter.unusedVariables false
set_option maxRecDepth 4000


/-- A row: its last generation, whether it is live, of which kind, at which place. -/
structure HRw where
  gen : Int
  live : Bool
  kind : Int
  pl : Int
/-- The handle of an index and a generation. -/
def ofN (i g : Int) : Nat := if 1 ≤ i ∧ i ≤ 4096 ∧ 1 ≤ g ∧ g ≤ 65535 then (i + 65536 * g).toNat else 0
theorem of_in {i g : Int} (h : 1 ≤ i ∧ i ≤ 4096 ∧ 1 ≤ g ∧ g ≤ 65535) : ofN i g = (i + 65536 * g).toNat := if_pos h
theorem of_out {i g : Int} (h : ¬ (1 ≤ i ∧ i ≤ 4096 ∧ 1 ≤ g ∧ g ≤ 65535)) : ofN i g = 0 := if_neg h
def intOf : Value → Int
  | .int _ n => n
  | _ => 0
/-- Rows as cells. -/
def cellsW : List HRw → List Value
  | [] => []
  | r :: l => .int .i64 r.gen :: .bool r.live :: .int .i64 r.kind :: .int .i64 r.pl :: cellsW l
theorem cellsW_len : ∀ l, (cellsW l).length = l.length * 4
  | [] => rfl
  | r :: l => by simp [cellsW, cellsW_len l]; omega
theorem cellsW_one : ∀ (l : List HRw), ∀ v ∈ cellsW l, v.oneCell' = true
  | r :: l, v, hv => by
    simp only [cellsW, List.mem_cons] at hv
    rcases hv with rfl | rfl | rfl | rfl | hv
    · rfl
    · rfl
    · rfl
    · rfl
    · exact cellsW_one l v hv
theorem cellsW_at : ∀ (l : List HRw) (i : Nat) (h : i < l.length), (cellsW l)[i * 4]? = some (.int .i64 l[i].gen) ∧ (cellsW l)[i * 4 + 1]? = some (.bool l[i].live) ∧ (cellsW l)[i * 4 + 2]? = some (.int .i64 l[i].kind) ∧ (cellsW l)[i * 4 + 3]? = some (.int .i64 l[i].pl)
  | r :: l, 0, _ => by simp [cellsW]
  | r :: l, i + 1, h => by
    have := cellsW_at l i (by simpa using h)
    rw [show (i + 1) * 4 = i * 4 + 4 from by omega, show i * 4 + 4 + 1 = i * 4 + 1 + 4 from by omega, show i * 4 + 4 + 2 = i * 4 + 2 + 4 from by omega, show i * 4 + 4 + 3 = i * 4 + 3 + 4 from by omega]
    simpa [cellsW] using this
theorem Tryz.infoW : (Tryz.prog.info? 73).map (fun i => (i.zero, i.size, i.bytes)) = some (some (.agg #[.int .i64 0, .bool false, .int .i64 0, .int .i64 0]), 4, 32) := by kernel_rfl
theorem Tryz.undRows : Tryz.prog.underlying 23 = some (.slice 73) := by kernel_rfl
/-- Rows in a row of one's own. -/
def Ow (w : World) (B : Nat) (a : Option Addr) (l : List HRw) (c : Nat) : Prop := w.ownsRow B 73 4 (.slice a l.length c) l.length (cellsW l)
/-- Handles in a row of one's own. -/
def cellsH (l : List Nat) : List Value := l.map (fun n => Value.int .u64 (n : Nat))
theorem cellsH_at (l : List Nat) (i : Nat) (h : i < l.length) : (cellsH l)[i]? = some (.int .u64 (l[i] : Nat)) := by simp [cellsH, List.getElem?_eq_getElem h]
def Oh (w : World) (B : Nat) (a : Option Addr) (l : List Nat) (c : Nat) : Prop := w.ownsRow B 163 1 (.slice a l.length c) l.length (cellsH l)
theorem Ow.nil (w : World) (B : Nat) : Ow w B none [] 0 := World.ownsRow_nil _ _ _ _
theorem Ow.same {w w' : World} {B : Nat} {a : Option Addr} {l : List HRw} {c : Nat} (h : Ow w B a l c) (he : ∀ g o, ob a = some g → w.heap[g]? = some o → w'.heap[g]? = some o) : Ow w' B a l c := by
  obtain ⟨h0, h1 | ⟨g, c', cur, h1, hg, h2, h3⟩⟩ := h
  · exact ⟨h0, .inl h1⟩
  · exact ⟨h0, .inr ⟨g, c', cur, h1, hg, he g _ (by cases h1; rfl) h2, h3⟩⟩
theorem Ow.mono {w : World} {B B' : Nat} {a : Option Addr} {l : List HRw} {c : Nat} (h : Ow w B a l c) (hb : B' ≤ B) : Ow w B' a l c := by
  obtain ⟨h0, h1 | ⟨g, c', cur, h1, hg, h2⟩⟩ := h
  · exact ⟨h0, .inl h1⟩
  · exact ⟨h0, .inr ⟨g, c', cur, h1, by omega, h2⟩⟩
theorem Ow.keep {w w' : World} {B : Nat} {a : Option Addr} {l : List HRw} {c : Nat} (h : Ow w B a l c) (hb : Below w.heap.size w w') : Ow w' B a l c := h.same (fun g o _ ho => by rw [hb.block g (hlt ho)]; exact ho)
theorem Ow.tu {S : Nat → Prop} {w w' : World} {B : Nat} {a : Option Addr} {l : List HRw} {c : Nat} (h : Ow w B a l c) (ht : Tu S w w') (hs : ∀ g, ob a = some g → ¬ S g) : Ow w' B a l c := h.same (fun g o hg ho => ht.block g o ho (hs g hg))
theorem Ow.ge {w : World} {B : Nat} {a : Option Addr} {l : List HRw} {c : Nat} (h : Ow w B a l c) : ∀ g, ob a = some g → B ≤ g ∧ g < w.heap.size := by
  intro g hg
  obtain ⟨_, ⟨h1, h3⟩ | ⟨g', c', cur, h1, hb, h2, _⟩⟩ := h
  · obtain rfl := List.eq_nil_of_length_eq_zero h3; cases h1; cases hg
  · cases h1; cases hg; exact ⟨hb, hlt h2⟩
theorem Ow.len {w : World} {B : Nat} {a : Option Addr} {l : List HRw} {c : Nat} (h : Ow w B a l c) : l.length ≤ c ∧ c ≤ 9223372036854775807 := by
  obtain ⟨_, ⟨h1, h2⟩ | ⟨g', c', cur, h1, hb, h2, h3, h4, _⟩⟩ := h
  · obtain rfl := List.eq_nil_of_length_eq_zero h2; cases h1; exact ⟨by simp, Nat.zero_le _⟩
  · cases h1; unfold maxLen at h4; exact ⟨h3, h4⟩
theorem Ow.no {w : World} {B : Nat} {l : List HRw} {c : Nat} (h : Ow w B none l c) : l = [] ∧ c = 0 := by
  obtain ⟨_, ⟨h1, h2⟩ | ⟨g', c', cur, h1, _⟩⟩ := h
  · obtain rfl := List.eq_nil_of_length_eq_zero h2; cases h1; exact ⟨rfl, rfl⟩
  · cases h1
theorem Ow.kind {w : World} {B : Nat} {a : Option Addr} {l : List HRw} {c : Nat} (h : Ow w B a l c) : ∀ g, ob a = some g → ∃ cur, w.heap[g]? = some (.cells cur 73 (0, 0)) := by
  intro g hg
  obtain ⟨_, ⟨h1, h2⟩ | ⟨g', c', cur, h1, _, h2, _⟩⟩ := h
  · obtain rfl := List.eq_nil_of_length_eq_zero h2; cases h1; cases hg
  · cases h1; cases hg; exact ⟨cur, h2⟩
theorem Oh.nil (w : World) (B : Nat) : Oh w B none [] 0 := World.ownsRow_nil _ _ _ _
theorem Oh.same {w w' : World} {B : Nat} {a : Option Addr} {l : List Nat} {c : Nat} (h : Oh w B a l c) (he : ∀ g o, ob a = some g → w.heap[g]? = some o → w'.heap[g]? = some o) : Oh w' B a l c := by
  obtain ⟨h0, h1 | ⟨g, c', cur, h1, hg, h2, h3⟩⟩ := h
  · exact ⟨h0, .inl h1⟩
  · exact ⟨h0, .inr ⟨g, c', cur, h1, hg, he g _ (by cases h1; rfl) h2, h3⟩⟩
theorem Oh.mono {w : World} {B B' : Nat} {a : Option Addr} {l : List Nat} {c : Nat} (h : Oh w B a l c) (hb : B' ≤ B) : Oh w B' a l c := by
  obtain ⟨h0, h1 | ⟨g, c', cur, h1, hg, h2⟩⟩ := h
  · exact ⟨h0, .inl h1⟩
  · exact ⟨h0, .inr ⟨g, c', cur, h1, by omega, h2⟩⟩
theorem Oh.keep {w w' : World} {B : Nat} {a : Option Addr} {l : List Nat} {c : Nat} (h : Oh w B a l c) (hb : Below w.heap.size w w') : Oh w' B a l c := h.same (fun g o _ ho => by rw [hb.block g (hlt ho)]; exact ho)
theorem Oh.tu {S : Nat → Prop} {w w' : World} {B : Nat} {a : Option Addr} {l : List Nat} {c : Nat} (h : Oh w B a l c) (ht : Tu S w w') (hs : ∀ g, ob a = some g → ¬ S g) : Oh w' B a l c := h.same (fun g o hg ho => ht.block g o ho (hs g hg))
theorem Oh.ge {w : World} {B : Nat} {a : Option Addr} {l : List Nat} {c : Nat} (h : Oh w B a l c) : ∀ g, ob a = some g → B ≤ g ∧ g < w.heap.size := by
  intro g hg
  obtain ⟨_, ⟨h1, h3⟩ | ⟨g', c', cur, h1, hb, h2, _⟩⟩ := h
  · obtain rfl := List.eq_nil_of_length_eq_zero h3; cases h1; cases hg
  · cases h1; cases hg; exact ⟨hb, hlt h2⟩
theorem Oh.len {w : World} {B : Nat} {a : Option Addr} {l : List Nat} {c : Nat} (h : Oh w B a l c) : l.length ≤ c ∧ c ≤ 9223372036854775807 := by
  obtain ⟨_, ⟨h1, h2⟩ | ⟨g', c', cur, h1, hb, h2, h3, h4, _⟩⟩ := h
  · obtain rfl := List.eq_nil_of_length_eq_zero h2; cases h1; exact ⟨by simp, Nat.zero_le _⟩
  · cases h1; unfold maxLen at h4; exact ⟨h3, h4⟩
theorem Oh.no {w : World} {B : Nat} {l : List Nat} {c : Nat} (h : Oh w B none l c) : l = [] ∧ c = 0 := by
  obtain ⟨_, ⟨h1, h2⟩ | ⟨g', c', cur, h1, _⟩⟩ := h
  · obtain rfl := List.eq_nil_of_length_eq_zero h2; cases h1; exact ⟨rfl, rfl⟩
  · cases h1
theorem Oh.kind {w : World} {B : Nat} {a : Option Addr} {l : List Nat} {c : Nat} (h : Oh w B a l c) : ∀ g, ob a = some g → ∃ cur, w.heap[g]? = some (.cells cur 163 (0, 0)) := by
  intro g hg
  obtain ⟨_, ⟨h1, h2⟩ | ⟨g', c', cur, h1, _, h2, _⟩⟩ := h
  · obtain rfl := List.eq_nil_of_length_eq_zero h2; cases h1; cases hg
  · cases h1; cases hg; exact ⟨cur, h2⟩
theorem Ow.cells {w : World} {B : Nat} {a : Option Addr} {l : List HRw} {c : Nat} (h : Ow w B a l c) (i : Nat) (hi : i < l.length) : ∃ g, a = some ⟨g, 0, none⟩ ∧ B ≤ g ∧ g < w.heap.size ∧ w.cell? ⟨g, i * 4, none⟩ = some (.int .i64 l[i].gen) ∧ w.cell? ⟨g, i * 4 + 1, none⟩ = some (.bool l[i].live) ∧ w.cell? ⟨g, i * 4 + 2, none⟩ = some (.int .i64 l[i].kind) ∧ w.cell? ⟨g, i * 4 + 3, none⟩ = some (.int .i64 l[i].pl) := by
  have h' := h
  obtain ⟨_, ⟨h1, h2⟩ | ⟨g, c', cur, h1, hb, h2, h3, h4, h5, h6⟩⟩ := h
  · omega
  · cases h1
    obtain ⟨k0, k1, k2, k3⟩ := cellsW_at l i hi
    refine ⟨g, rfl, hb, hlt h2, ?_, ?_, ?_, ?_⟩
    · rw [World.ownsRow.cellAt h' (i * 4) (by omega)]; exact k0
    · rw [World.ownsRow.cellAt h' (i * 4 + 1) (by omega)]; exact k1
    · rw [World.ownsRow.cellAt h' (i * 4 + 2) (by omega)]; exact k2
    · rw [World.ownsRow.cellAt h' (i * 4 + 3) (by omega)]; exact k3
theorem Oh.cells {w : World} {B : Nat} {a : Option Addr} {l : List Nat} {c : Nat} (h : Oh w B a l c) (i : Nat) (hi : i < l.length) : ∃ g, a = some ⟨g, 0, none⟩ ∧ B ≤ g ∧ g < w.heap.size ∧ w.cell? ⟨g, i, none⟩ = some (.int .u64 (l[i] : Nat)) := by
  have h' := h
  obtain ⟨_, ⟨h1, h2⟩ | ⟨g, c', cur, h1, hb, h2, h3, h4, h5, h6⟩⟩ := h
  · omega
  · cases h1
    refine ⟨g, rfl, hb, hlt h2, ?_⟩
    rw [World.ownsRow.cellAt h' i (by omega)]; exact cellsH_at l i hi
/-- A slice of rows that may be read. -/
def IsW (w : World) (a : Option Addr) (l : List HRw) : Prop :=
  l = [] ∨ ∃ b off, a = some ⟨b, off, none⟩ ∧ b < w.heap.size ∧ ∀ i (h : i < l.length), w.cell? ⟨b, off + i * 4, none⟩ = some (.int .i64 l[i].gen) ∧ w.cell? ⟨b, off + i * 4 + 1, none⟩ = some (.bool l[i].live) ∧ w.cell? ⟨b, off + i * 4 + 2, none⟩ = some (.int .i64 l[i].kind) ∧ w.cell? ⟨b, off + i * 4 + 3, none⟩ = some (.int .i64 l[i].pl)
theorem IsW.same {w w' : World} {a : Option Addr} {l : List HRw} (h : IsW w a l) (hz : w.heap.size ≤ w'.heap.size) (hb : ∀ p, a = some p → w'.heap[p.block]? = w.heap[p.block]?) : IsW w' a l := by
  rcases h with h | ⟨b, off, e, hs, hc⟩
  · exact .inl h
  · have q : ∀ j, w'.cell? ⟨b, j, none⟩ = w.cell? ⟨b, j, none⟩ := fun j => World.cell?_of_block (hb ⟨b, off, none⟩ e)
    refine .inr ⟨b, off, e, by omega, fun i hi => ?_⟩
    rw [q, q, q, q]; exact hc i hi
theorem IsW.keep {w w' : World} {a : Option Addr} {l : List HRw} (h : IsW w a l) (hb : Below w.heap.size w w') : IsW w' a l := by
  rcases h with h | ⟨b, off, e, hs, hc⟩
  · exact .inl h
  · exact IsW.same (.inr ⟨b, off, e, hs, hc⟩) hb.size (fun p hp => by rw [e] at hp; cases hp; exact hb.block b hs)
/-- A slice of handles that may be read. -/
def IsH (w : World) (a : Option Addr) (l : List Nat) : Prop :=
  l = [] ∨ ∃ b, a = some ⟨b, 0, none⟩ ∧ b < w.heap.size ∧ ∀ i (h : i < l.length), w.cell? ⟨b, i, none⟩ = some (.int .u64 (l[i] : Nat))
theorem IsH.keep {w w' : World} {a : Option Addr} {l : List Nat} (h : IsH w a l) (hb : Below w.heap.size w w') : IsH w' a l := by
  rcases h with h | ⟨b, e, hs, hc⟩
  · exact .inl h
  · refine .inr ⟨b, e, by have := hb.size; omega, fun i hi => ?_⟩
    rw [hb.cell (p := ⟨b, i, none⟩) hs]; exact hc i hi
/-! ### appends -/
theorem howns_form {w : World} {base n s : Nat} {e : TypeId} {v : Value} {xs : List Value} (h : w.ownsRow base e s v n xs) : ∃ a cap, v = .slice a n cap := by
  obtain ⟨_, ⟨rfl, rfl⟩ | ⟨g, c', cur, rfl, _⟩⟩ := h
  · exact ⟨_, _, rfl⟩
  · exact ⟨_, _, rfl⟩
theorem or_nat (a b : Nat) (ha : a < 2 ^ 64) (hb : b < 2 ^ 64) : bits .or .u64 (a : Int) (b : Int) = ((a ||| b : Nat) : Int) := by
  have := u64_or (a : Int) (b : Int) (by omega) (by omega) (by omega) (by omega)
  simpa using this
theorem or_of (i g : Nat) (hi : i < 65536) (hg : g < 65536) : bits .or .u64 ((g * 65536 : Nat) : Int) (i : Nat) = ((i + 65536 * g : Nat) : Int) := by
  rw [or_nat _ _ (by omega) (by omega), show g * 65536 = g <<< 16 from by rw [Nat.shiftLeft_eq], ← Nat.shiftLeft_add_eq_or_of_lt (by omega : i < 2 ^ 16), Nat.shiftLeft_eq]
  congr 1
  omega
theorem of_any (i g : Int) (w : World) (hi : -9223372036854775808 ≤ i ∧ i ≤ 9223372036854775807) (hg : -9223372036854775808 ≤ g ∧ g ≤ 9223372036854775807) :
    Calls Tryz.prog 142 #[.int .i64 i, .int .i64 g] w fun e w' => e = .returned (.int .u64 (ofN i g : Nat)) ∧ w = w' := by
  by_cases h1 : i < 1
  · rw [of_out (by omega)]
    go_enter Tryz.func142, Tryz.ntmps142
    go_wp2
    go_ret
    exact ⟨rfl, rfl⟩
  · by_cases h2 : 4096 < i
    · rw [of_out (by omega)]
      go_enter Tryz.func142, Tryz.ntmps142
      go_wp2
      go_ret
      exact ⟨rfl, rfl⟩
    · by_cases h3 : g < 1
      · rw [of_out (by omega)]
        go_enter Tryz.func142, Tryz.ntmps142
        go_wp2
        go_ret
        exact ⟨rfl, rfl⟩
      · by_cases h4 : 65535 < g
        · rw [of_out (by omega)]
          go_enter Tryz.func142, Tryz.ntmps142
          go_wp2
          go_ret
          exact ⟨rfl, rfl⟩
        · rw [of_in (by omega)]
          obtain ⟨x, rfl⟩ : ∃ x : Nat, i = x := ⟨i.toNat, by omega⟩
          obtain ⟨y, rfl⟩ : ∃ y : Nat, g = y := ⟨g.toNat, by omega⟩
          have E : Hid (bits .or .u64 ((y : Int) * 65536) (x : Int) = (((x : Int) + 65536 * (y : Int)).toNat : Nat)) := by
            have := or_of x y (by omega) (by omega)
            show _ = _
            rw [show (y : Int) * 65536 = ((y * 65536 : Nat) : Int) from by omega, this]
            omega
          go_enter Tryz.func142, Tryz.ntmps142
          go_wp2
          go_ret
          exact ⟨ret_int (E.out.trans (by omega)), rfl⟩

theorem of_q (i g : Int) (N : Nat) (w : World) (hi : -9223372036854775808 ≤ i ∧ i ≤ 9223372036854775807) (hg : -9223372036854775808 ≤ g ∧ g ≤ 9223372036854775807) (hN : ofN i g = N) :
    Calls Tryz.prog 142 #[.int .i64 i, .int .i64 g] w fun e w' => e = .returned (.int .u64 (N : Nat)) ∧ w' = w := by
  subst hN
  exact (of_any i g w hi hg).mono (fun e w' h => ⟨h.1, h.2.symm⟩)
end Go.Proofs.YtbfamjnnlcopiaaGreatDoor

/- Maps of layer 14: rows by places (numbers), spans by pages (pointers). -/
namespace Go.Proofs.YtbfamjnnlcopiaaGreatDoor
open Go.RowKit Go.Maps
set_option linter.unusedVariables false
set_option maxRecDepth 4000

theorem law : Keyed Tryz.prog 3 := Maps.int_keyed Tryz.underlying3
theorem keyI {i : Int} (h : -9223372036854775808 ≤ i ∧ i ≤ 9223372036854775807) : keyOf Tryz.prog 3 (.int .i64 i) = some (.int .i64 i) := Maps.keyOf_int_mk Tryz.underlying3 (WalkArith.wf_i64 (by omega))
theorem keyL {i : Int} (h : -9223372036854775808 ≤ i ∧ i ≤ 9223372036854775807) : WideAt.IsKeyLit (.int .i64 i) := law.key (keyI h)
def ptrElem : Value → Option (DataW Value × List MemPlace)
  | .pointer a => some (.held (.pointer a), [])
  | _ => none
theorem ptrElem_mk (a : Option Addr) : ptrElem (.pointer a) = some (.held (.pointer a), []) := rfl
theorem ptrElem_inv {v : Value} {y : DataW Value × List MemPlace} (h : ptrElem v = some y) : ∃ a : Option Addr, v = .pointer a ∧ y = (.held (.pointer a), []) := by
  cases v <;> simp [ptrElem] at h
  rename_i a
  exact ⟨a, rfl, h.symm⟩
def ptO (o : Option Nat) : Value := .pointer (o.map (fun p => ⟨p, 0, none⟩))
/-- A map of pointers. -/
def MapP (w : World) (b n : Nat) (f : Int → Option Nat) : Prop :=
  ∃ D : DataW Value, w.ownsMap Tryz.prog 3 ptrElem b n D ∧ (∀ i, Maps.has D (.int .i64 i) = (f i).isSome) ∧ ∀ i p, f i = some p → ∀ z, D.atKey (.int .i64 i) z = .held (.pointer (some ⟨p, 0, none⟩))
/-- A map of numbers. -/
def MapI (w : World) (b n : Nat) (f : Int → Option Nat) : Prop :=
  ∃ D : DataW Unit, w.ownsMap Tryz.prog 3 (plainElem Tryz.prog 3) b n D ∧ (∀ i, Maps.has D (.int .i64 i) = (f i).isSome) ∧ ∀ i k, f i = some k → ∀ z, D.atKey (.int .i64 i) z = .lit (.int .i64 (k : Nat))
theorem owns_block {H : Type} {P : Program} {k : TypeId} {R : Value → Option (DataW H × List MemPlace)} {w : World} {b n : Nat} {D : DataW H} (h : w.ownsMap P k R b n D) : ∃ es c, w.heap[b]? = some (.map es c) := by
  obtain ⟨es, c, hb, _⟩ := h; exact ⟨es, c, hb⟩
theorem owns_same {H : Type} {P : Program} {k : TypeId} {R : Value → Option (DataW H × List MemPlace)} {w w' : World} {b n : Nat} {D : DataW H} (h : w.ownsMap P k R b n D) (he : ∀ o, w.heap[b]? = some o → w'.heap[b]? = some o) : w'.ownsMap P k R b n D := by
  obtain ⟨es, c, hb, r⟩ := h; exact ⟨es, c, he _ hb, r⟩
theorem MapP.block {w : World} {b n : Nat} {f : Int → Option Nat} (h : MapP w b n f) : ∃ es c, w.heap[b]? = some (.map es c) := by obtain ⟨D, h, _⟩ := h; exact owns_block h
theorem MapI.block {w : World} {b n : Nat} {f : Int → Option Nat} (h : MapI w b n f) : ∃ es c, w.heap[b]? = some (.map es c) := by obtain ⟨D, h, _⟩ := h; exact owns_block h
theorem MapP.same {w w' : World} {b n : Nat} {f : Int → Option Nat} (h : MapP w b n f) (he : ∀ o, w.heap[b]? = some o → w'.heap[b]? = some o) : MapP w' b n f := by obtain ⟨D, h, r⟩ := h; exact ⟨D, owns_same h he, r⟩
theorem MapI.same {w w' : World} {b n : Nat} {f : Int → Option Nat} (h : MapI w b n f) (he : ∀ o, w.heap[b]? = some o → w'.heap[b]? = some o) : MapI w' b n f := by obtain ⟨D, h, r⟩ := h; exact ⟨D, owns_same h he, r⟩
theorem MapP.lt {w : World} {b n : Nat} {f : Int → Option Nat} (h : MapP w b n f) : b < w.heap.size := by obtain ⟨_, _, h⟩ := h.block; exact hlt h
theorem MapI.lt {w : World} {b n : Nat} {f : Int → Option Nat} (h : MapI w b n f) : b < w.heap.size := by obtain ⟨_, _, h⟩ := h.block; exact hlt h
theorem MapP.keep {w w' : World} {b n : Nat} {f : Int → Option Nat} (h : MapP w b n f) (hb : Below w.heap.size w w') : MapP w' b n f := h.same (fun o ho => by rw [hb.block b (hlt ho)]; exact ho)
theorem MapI.keep {w w' : World} {b n : Nat} {f : Int → Option Nat} (h : MapI w b n f) (hb : Below w.heap.size w w') : MapI w' b n f := h.same (fun o ho => by rw [hb.block b (hlt ho)]; exact ho)
theorem MapP.made (w : World) : MapP (w.alloc (.map #[] 0)) w.heap.size 0 (fun _ => none) := ⟨_, World.ownsMap_made w _ _ _, fun i => rfl, fun i l h => by cases h⟩
theorem MapI.made (w : World) : MapI (w.alloc (.map #[] 0)) w.heap.size 0 (fun _ => none) := ⟨_, World.ownsMap_made w _ _ _, fun i => rfl, fun i l h => by cases h⟩
theorem MapP.look {w : World} {b n : Nat} {f : Int → Option Nat} (h : MapP w b n f) {i : Int} (hi : -9223372036854775808 ≤ i ∧ i ≤ 9223372036854775807) :
    (Instr.lookup 139 (.map (some b)) (.int .i64 i) false).run Tryz.prog w = .ok (ptO (f i)) w := by
  obtain ⟨D, ho, hh, hv⟩ := h
  obtain ⟨v, ps, hrun, hR⟩ := ho.lookup law Tryz.underlying139 (z := .pointer none) (by kernel_rfl) (ptrElem_mk none) (keyI hi)
  obtain ⟨a, rfl, e⟩ := ptrElem_inv hR
  simp only [Prod.mk.injEq] at e
  rw [hrun]
  cases hf : f i with
  | none =>
    rw [Maps.atKey_of_not_has (by rw [hh, hf]; rfl)] at e
    cases e.1
    rfl
  | some p =>
    rw [hv i p hf] at e
    cases e.1
    rfl
theorem MapI.look {w : World} {b n : Nat} {f : Int → Option Nat} (h : MapI w b n f) {i : Int} (hi : -9223372036854775808 ≤ i ∧ i ≤ 9223372036854775807) :
    ∃ c, (Instr.lookup 140 (.map (some b)) (.int .i64 i) true).run Tryz.prog w = .ok (.tuple #[.int .i64 c, .bool (f i).isSome]) w ∧ ∀ k, f i = some k → c = k := by
  obtain ⟨D, ho, hh, hv⟩ := h
  obtain ⟨v, ps, hrun, hR⟩ := ho.look_ok law Tryz.underlying140 (z := .int .i64 0) (by kernel_rfl) (plainElem_int Tryz.underlying3 (by decide)) (keyI hi)
  obtain ⟨c, rfl, e, _⟩ := plainElem_int_inv Tryz.underlying3 hR
  refine ⟨c, by rw [hrun, hh], fun k hk => ?_⟩
  rw [hv i k hk] at e
  simp at e
  exact e.1.symm
theorem MapI.look0 {w : World} {b n : Nat} {f : Int → Option Nat} (h : MapI w b n f) {i : Int} (hi : -9223372036854775808 ≤ i ∧ i ≤ 9223372036854775807) (k : Nat) (hk : f i = some k) :
    (Instr.lookup 140 (.map (some b)) (.int .i64 i) false).run Tryz.prog w = .ok (.int .i64 (k : Nat)) w := by
  obtain ⟨D, ho, hh, hv⟩ := h
  obtain ⟨v, ps, hrun, hR⟩ := ho.lookup law Tryz.underlying140 (z := .int .i64 0) (by kernel_rfl) (plainElem_int Tryz.underlying3 (by decide)) (keyI hi)
  obtain ⟨c, rfl, e, _⟩ := plainElem_int_inv Tryz.underlying3 hR
  rw [hrun]
  rw [hv i k hk] at e
  simp at e
  rw [e.1]
theorem turned_else {w w' : World} {b : Nat} (h : w.mapTurned w' b) : w'.heap.size = w.heap.size ∧ ∀ i, i ≠ b → w'.heap[i]? = w.heap[i]? := by
  obtain ⟨es, c, es', c', h1, rfl⟩ := h
  exact ⟨by simp [ChangeMaps.setBlock], fun i hi => ChangeMaps.heap_setBlock_other h1 _ hi⟩
theorem turned_only {w w' : World} {b : Nat} (h : w.mapTurned w' b) : Only b w w' := by
  have h2 := turned_else h
  have h1 := h.grown
  exact ⟨h1.os, h1.tape, h1.output, h2.1, h2.2⟩
theorem MapP.store {w : World} {b n : Nat} {f : Int → Option Nat} (h : MapP w b n f) (hn : n < 1000000) {i : Int} (hi : -9223372036854775808 ≤ i ∧ i ≤ 9223372036854775807) (p : Nat) :
    ∃ w', (Instr.mapUpdate 139 (.map (some b)) (.int .i64 i) (.pointer (some ⟨p, 0, none⟩))).run Tryz.prog w = .ok () w' ∧ MapP w' b (n + 1) (fun j => if j = i then some p else f j) ∧ Only b w w' := by
  obtain ⟨D, ho, hh, hv⟩ := h
  obtain ⟨w', hrun, ho', ht⟩ := ho.store law Tryz.underlying139 (by unfold maxLen; omega) (keyI hi) (ptrElem_mk (some ⟨p, 0, none⟩))
  refine ⟨w', hrun, ⟨_, ho', fun j => ?_, fun j l' hj z => ?_⟩, turned_only ht⟩
  · by_cases e : j = i
    · subst e; simp [Maps.has_put_same ho.isMap (keyL hi)]
    · rw [Maps.has_put_other (by simpa using e)]; simp [e, hh]
  · by_cases e : j = i
    · subst e; simp at hj; subst hj; exact Maps.atKey_put_same ho.isMap (keyL hi) _ _
    · simp [e] at hj; rw [Maps.atKey_put_other (by simpa using e)]; exact hv j l' hj z
theorem MapI.store {w : World} {b n : Nat} {f : Int → Option Nat} (h : MapI w b n f) (hn : n < 1000000) {i : Int} (hi : -9223372036854775808 ≤ i ∧ i ≤ 9223372036854775807) (k : Nat) (hk : k ≤ 1000000) :
    ∃ w', (Instr.mapUpdate 140 (.map (some b)) (.int .i64 i) (.int .i64 (k : Nat))).run Tryz.prog w = .ok () w' ∧ MapI w' b (n + 1) (fun j => if j = i then some k else f j) ∧ Only b w w' := by
  obtain ⟨D, ho, hh, hv⟩ := h
  obtain ⟨w', hrun, ho', ht⟩ := ho.store law Tryz.underlying140 (by unfold maxLen; omega) (keyI hi) (plainElem_int Tryz.underlying3 (a := (k : Nat)) (WalkArith.wf_i64 (by omega)))
  refine ⟨w', hrun, ⟨_, ho', fun j => ?_, fun j l' hj z => ?_⟩, turned_only ht⟩
  · by_cases e : j = i
    · subst e; simp [Maps.has_put_same ho.isMap (keyL hi)]
    · rw [Maps.has_put_other (by simpa using e)]; simp [e, hh]
  · by_cases e : j = i
    · subst e; simp at hj; subst hj; exact Maps.atKey_put_same ho.isMap (keyL hi) _ _
    · simp [e] at hj; rw [Maps.atKey_put_other (by simpa using e)]; exact hv j l' hj z
end Go.Proofs.YtbfamjnnlcopiaaGreatDoor
