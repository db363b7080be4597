/- What can be seen of a view's objects, as numbers. -/
import Derived.Test.YtebmegghojiegaaDoorGsJ
import Derived.Test.YtebmegghojiegaaDoorAvN
namespace Go.Proofs.YtebmegghojiegaaDoor
open Go.RowKit
set_option linter.unusedVariables false

/-- Bytes with noughts in the place of these fields. -/
def blankB (b : List Int) (l : List Int) : List Int := l.foldl (fun b p => overR b p.toNat (List.replicate 8 0)) b
theorem over_len {l : List Int} {o : Nat} {b : List Int} (h : o + b.length ≤ l.length) : (overR l o b).length = l.length := by
  unfold overR; simp; omega
theorem over_all {l : List Int} {o : Nat} {b : List Int} (h : AllB l) (k : AllB b) : AllB (overR l o b) := ((h.take o).append k).append (h.drop _)
theorem over_drop {l : List Int} {o p : Nat} {b : List Int} (h : o + b.length ≤ l.length) (hp : o + b.length ≤ p) : (overR l o b).drop p = l.drop p := by
  unfold overR
  have e : (l.take o ++ b).length = o + b.length := by simp; omega
  rw [List.drop_append, e, List.drop_of_length_le (by omega), List.nil_append, List.drop_drop]
  congr 1; omega
theorem blank_snoc (b l : List Int) (p : Int) : blankB b (l ++ [p]) = overR (blankB b l) p.toNat (List.replicate 8 0) := by
  unfold blankB; rw [List.foldl_append]; rfl
theorem blank_len : ∀ (l b : List Int), (∀ q ∈ l, 0 ≤ q ∧ q + 8 ≤ b.length) → (blankB b l).length = b.length
  | [], b, _ => rfl
  | q :: l, b, h => by
    have hq := h q List.mem_cons_self
    have e : (overR b q.toNat (List.replicate 8 0)).length = b.length := over_len (by simp; omega)
    show (blankB (overR b q.toNat (List.replicate 8 0)) l).length = _
    rw [blank_len l _ (fun x hx => by rw [e]; exact h x (List.mem_cons_of_mem _ hx)), e]
theorem all_noughts (n : Nat) : AllB (List.replicate n 0) := fun x hx => by rw [(List.mem_replicate.1 hx).2]; omega
theorem blank_all : ∀ (l b : List Int), AllB b → AllB (blankB b l)
  | [], b, h => h
  | q :: l, b, h => blank_all l _ (over_all h (all_noughts 8))
theorem blank_drop : ∀ (l b : List Int) (p : Nat), (∀ q ∈ l, 0 ≤ q ∧ q + 8 ≤ b.length) → (∀ q ∈ l, q + 8 ≤ p) → (blankB b l).drop p = b.drop p
  | [], b, p, _, _ => rfl
  | q :: l, b, p, h, k => by
    have hq := h q List.mem_cons_self
    have kq := k q List.mem_cons_self
    have e : (overR b q.toNat (List.replicate 8 0)).length = b.length := over_len (by simp; omega)
    show (blankB (overR b q.toNat (List.replicate 8 0)) l).drop p = _
    rw [blank_drop l _ p (fun x hx => by rw [e]; exact h x (List.mem_cons_of_mem _ hx)) (fun x hx => k x (List.mem_cons_of_mem _ hx)), over_drop (by simp; omega) (by simp; omega)]
/-- What can be seen of a row's object. -/
def zOf (V : Vw) (i : Nat) : Nat := (knD V.ks (rwD V.rs i).kind.toNat).s.toNat
def psOf (V : Vw) (i : Nat) : List Int := (knD V.ks (rwD V.rs i).kind.toNat).l
def b0Of (V : Vw) (i : Nat) : List Int := (V.bs.drop (rwD V.rs i).pl.toNat).take (zOf V i)
def toOf (V : Vw) (i : Nat) (p : Int) : Nat := nameH V (wordV V.bs ((rwD V.rs i).pl + p))
def objI (V : Vw) (i : Nat) : Ob := ⟨ofN ((i : Int) + 1) (rwD V.rs i).gen, (rwD V.rs i).kind, blankB (b0Of V i) (psOf V i), (psOf V i).map (toOf V i)⟩
/-- The objects of the first rows. -/
def objsU (V : Vw) : Nat → List Ob
  | 0 => []
  | n + 1 => objsU V n ++ (if (rwD V.rs n).live = true then [objI V n] else [])
def objsV (V : Vw) : List Ob := objsU V V.rs.length
theorem objsU_len (V : Vw) : ∀ n, (objsU V n).length ≤ n
  | 0 => Nat.le_refl _
  | n + 1 => by
    have := objsU_len V n
    unfold objsU
    split <;> simp <;> omega
theorem objsU_live {V : Vw} {n : Nat} (h : (rwD V.rs n).live = true) : objsU V (n + 1) = objsU V n ++ [objI V n] := by
  rw [objsU, if_pos h]
theorem objsU_dead {V : Vw} {n : Nat} (h : (rwD V.rs n).live = false) : objsU V (n + 1) = objsU V n := by
  rw [objsU, if_neg (by rw [h]; decide), List.append_nil]
/-- What is known of a live row's object. -/
structure ObjF (V : Vw) (i : Nat) : Prop where
  pl : 0 ≤ (rwD V.rs i).pl
  z0 : 1 ≤ zOf V i
  z1 : zOf V i ≤ 4096
  zs : (knD V.ks (rwD V.rs i).kind.toNat).s = (zOf V i : Int)
  fit : (rwD V.rs i).pl.toNat + zOf V i ≤ V.bs.length
  len : (b0Of V i).length = zOf V i
  ps : ∀ p ∈ psOf V i, 0 ≤ p ∧ p + 8 ≤ (zOf V i : Int)
  pw : (psOf V i).Pairwise (fun p q => p + 8 ≤ q)
  pn : (psOf V i).length ≤ 16
  kd : 0 ≤ (rwD V.rs i).kind ∧ (rwD V.rs i).kind < V.ks.length
theorem Hold.obj {V : Vw} {q : Nat} (h : Hold V q) (hq : 4 ≤ q) (i : Nat) (hi : i < V.rs.length) (hl : (rwD V.rs i).live = true) : ObjF V i := by
  obtain ⟨l1, l2, l3, l4, l5, l6, l7⟩ := h.lies hq i hi hl
  obtain ⟨m1, m2, m3, m4, _⟩ := h.live hq i hi hl
  have hz : (knD V.ks (rwD V.rs i).kind.toNat).s = (zOf V i : Int) := by unfold zOf; omega
  rw [hz] at l2 l4 l5 l6
  obtain ⟨p1, p2⟩ := placed_all _ _ l6
  have fit : (rwD V.rs i).pl.toNat + zOf V i ≤ V.bs.length := by omega
  refine ⟨l1, by omega, by omega, hz, fit, ?_, p1, p2, l7, m3, m4⟩
  unfold b0Of
  rw [List.length_take, List.length_drop]
  omega
/-- A field's number, whatever fields ahead of it are blank. -/
theorem ObjF.read {V : Vw} {i : Nat} (h : ObjF V i) (k : Nat) (hk : k < (psOf V i).length) : (((blankB (b0Of V i) ((psOf V i).take k)).drop ((psOf V i).getD k 0).toNat).take 8) = (V.bs.drop ((rwD V.rs i).pl + (psOf V i).getD k 0).toNat).take 8 := by
  have e : (psOf V i).getD k 0 = (psOf V i)[k] := by simp [List.getD, hk]
  rw [e]
  have hp := h.ps _ (List.getElem_mem hk)
  have pl := h.pl
  have hs : ∀ q ∈ (psOf V i).take k, q ∈ psOf V i := fun q hq => List.mem_of_mem_take hq
  rw [blank_drop _ _ _ (fun q hq => by rw [h.len]; exact h.ps q (hs q hq)) (fun q hq => ?_)]
  · unfold b0Of
    rw [word_cut (by omega)]
    congr 2
    omega
  · obtain ⟨j, hj, rfl⟩ := List.getElem_of_mem hq
    have hj' : j < k := by rw [List.length_take] at hj; omega
    rw [List.getElem_take]
    have := List.pairwise_iff_getElem.1 h.pw j k (by omega) hk hj'
    omega
theorem ObjF.blen {V : Vw} {i : Nat} (h : ObjF V i) (k : Nat) : (blankB (b0Of V i) ((psOf V i).take k)).length = zOf V i := by
  rw [blank_len _ _ (fun q hq => by rw [h.len]; exact h.ps q (List.mem_of_mem_take hq)), h.len]
theorem ObjF.more {V : Vw} {i : Nat} (k : Nat) (hk : k < (psOf V i).length) : overR (blankB (b0Of V i) ((psOf V i).take k)) ((psOf V i).getD k 0).toNat (List.replicate 8 0) = blankB (b0Of V i) ((psOf V i).take (k + 1)) := by
  have e : (psOf V i).getD k 0 = (psOf V i)[k] := by simp [List.getD, hk]
  rw [e, List.take_succ_eq_append_getElem hk, blank_snoc]
end Go.Proofs.YtebmegghojiegaaDoor
