/- The document's objects, half made. -/
import Derived.Test.YtebmegghojiegaaDoorBbB
import Derived.Test.YtebmegghojiegaaDoorGsK
import Derived.Test.YtebmegghojiegaaDoorBhM
namespace Go.Proofs.YtebmegghojiegaaDoor
open Go.RowKit
set_option linter.unusedVariables false
set_option linter.unusedSimpArgs false

/-- An object of the document's in its box, half made. -/
structure Orw (K wz : World) (G bg z bk : Nat) (N : Nat) (kd : Int) (l : List Int) (hs : List Nat) (ha : Option Addr) (n hk : Nat) : Prop where
  g0 : K.heap.size ≤ G
  rg : wz.heap[G]? = some (.cells #[.int .u64 (N : Nat), .int .i64 kd, .slice (some ⟨bg, 0, none⟩) z bk, .slice ha n hk] 84 (0, 0))
  yb : OwnsB wz K.heap.size (some ⟨bg, 0, none⟩) l bk
  oh : Oh wz K.heap.size ha hs hk
  zl : l.length = z
  nl : hs.length = n
  bw : Bl K wz
theorem Orw.keep {K wz wy : World} {G bg z bk N : Nat} {kd : Int} {l : List Int} {hs : List Nat} {ha : Option Addr} {n hk : Nat} (h : Orw K wz G bg z bk N kd l hs ha n hk) (b : Bl wz wy) : Orw K wy G bg z bk N kd l hs ha n hk :=
  ⟨h.g0, b.row h.rg, h.yb.keep b, h.oh.keep b, h.zl, h.nl, h.bw.trans b⟩
theorem Orw.apart {K wz : World} {G bg z bk N : Nat} {kd : Int} {l : List Int} {hs : List Nat} {ha : Option Addr} {n hk : Nat} (h : Orw K wz G bg z bk N kd l hs ha n hk) : G ≠ bg ∧ (∀ k, ob ha = some k → k ≠ G ∧ k ≠ bg) ∧ K.heap.size ≤ bg := by
  obtain ⟨hb, cur, hc⟩ := h.yb.kind bg rfl
  refine ⟨kind_ne h.rg hc (by decide), fun k hk => ?_, hb⟩
  obtain ⟨c2, hc2⟩ := h.oh.kind k hk
  exact ⟨kind_ne hc2 h.rg (by decide), kind_ne hc2 hc (by decide)⟩
theorem Orw.more {K wz wy : World} {G bg z bk N : Nat} {kd : Int} {l : List Int} {hs : List Nat} {ha a7 : Option Addr} {n hk k7 M : Nat} (h : Orw K wz G bg z bk N kd l hs ha n hk) (u : Tu (fun k => ob ha = some k) wz wy) (o : Oh wy K.heap.size a7 (hs ++ [M]) k7) :
    Orw K (wy.setCell ⟨G, 3, none⟩ (.slice a7 (n + 1) k7)) G bg z bk N kd l (hs ++ [M]) a7 (n + 1) k7 := by
  obtain ⟨p1, p3, p5⟩ := h.apart
  have rg := u.block G _ h.rg (fun e => (p3 G e).1 rfl)
  have on := Only.set G 3 (.slice a7 (n + 1) k7) wy
  refine ⟨h.g0, heap_setCell_same wy G 3 _ _ _ rg, ?_, ?_, h.zl, by rw [List.length_append, h.nl]; rfl, ?_⟩
  · refine h.yb.same (fun g o' hg ho => ?_)
    cases hg
    rw [on.block _ p1.symm]
    exact u.block _ _ ho (fun e => (p3 _ e).2 rfl)
  · refine o.same (fun g o' hg ho => ?_)
    obtain ⟨cur, hc⟩ := o.kind g hg
    rw [on.block _ (kind_ne hc rg (by decide))]; exact ho
  · have b1 : Below K.heap.size K wy := Below.trans h.bw (u.below (fun i e => (h.oh.ge i e).1) (Below.size h.bw))
    exact Below.trans b1 (on.below h.g0)
theorem Orw.blank {K wz wy : World} {G bg z bk N : Nat} {kd : Int} {l l' : List Int} {hs : List Nat} {ha : Option Addr} {n hk : Nat} (h : Orw K wz G bg z bk N kd l hs ha n hk) (o : OwnsB wy K.heap.size (some ⟨bg, 0, none⟩) l' bk) (on : Only bg wz wy) (hl : l'.length = z) : Orw K wy G bg z bk N kd l' hs ha n hk := by
  obtain ⟨p1, p3, p5⟩ := h.apart
  exact ⟨h.g0, by rw [on.block _ p1]; exact h.rg, o, h.oh.same (fun g o' hg ho => by rw [on.block _ (p3 g hg).2]; exact ho), hl, h.nl, Below.trans h.bw (on.below p5)⟩
/-- Noughts one by one. -/
theorem over_set {l : List Int} {o t : Nat} (h : o + t < l.length) : (overR l o (List.replicate t 0)).set (o + t) 0 = overR l o (List.replicate (t + 1) 0) := by
  apply List.ext_getElem?
  intro k
  have e1 : (overR l o (List.replicate t 0)).length = l.length := over_len (by simp; omega)
  rw [List.getElem?_set]
  by_cases hk : o + t = k
  · subst hk
    rw [if_pos rfl, if_pos (by rw [e1]; exact h)]
    have e : o + t - o = t := by omega
    unfold overR
    have t1 : (l.take o).length = o := by rw [List.length_take]; omega
    rw [List.append_assoc, List.getElem?_append_right (by omega), t1, e, List.getElem?_append_left (by simp)]
    simp
  · rw [if_neg hk]
    by_cases hin : k < o ∨ o + (t + 1) ≤ k
    · rw [over_get (by simp; omega) (by simp; omega), over_get (by simp; omega) (by simp; omega)]
    · rw [over_in (by simp; omega) (by omega) (by simp; omega), over_in (by simp; omega) (by omega) (by simp; omega), List.getElem?_replicate, List.getElem?_replicate, if_pos (by omega), if_pos (by omega)]
end Go.Proofs.YtebmegghojiegaaDoor

/- Objects whose bytes are turned. -/
namespace Go.Proofs.YtebmegghojiegaaDoor
open Go.RowKit
set_option linter.unusedVariables false

/-- A row of objects of one's own, whatever their bytes are. -/
def Mut (w : World) (B : Nat) (v : Value) (n : Nat) (os : List Ob) : Prop := ∃ rs : List Rob, rs.length = os.length ∧ w.ownsRow B 44 4 v n (rs.flatMap Rob.cs) ∧ ∀ r ∈ rs, ∃ bg l', r.ba = some ⟨bg, 0, none⟩ ∧ OwnsB w B (some ⟨bg, 0, none⟩) l' r.bk ∧ l'.length = r.b.length ∧ AllB l'
theorem Tob.mut {w : World} {B : Nat} {a : Option Addr} {n c : Nat} {os : List Ob} (h : Tob w B 44 (.slice a n c) os) (hn : os.length = n) : Mut w B (.slice a n c) n os := by
  obtain ⟨rs, e1, e2, e3⟩ := h
  rw [hn] at e2
  refine ⟨rs, by rw [← e1, List.length_map], e2, fun r hr => ?_⟩
  obtain ⟨h1, _, h3, h4⟩ := e3 r hr
  have h1' := h1
  obtain ⟨_, ⟨k1, k2⟩ | ⟨g, c', cur, k1, _⟩⟩ := h1
  · exfalso; apply h4; injection k1
  · have : r.ba = some ⟨g, 0, none⟩ := by injection k1
    exact ⟨g, r.b, this, by rw [← this]; exact h1', rfl, h3⟩
theorem OwnsB.setAny {w : World} {base g : Nat} {l : List Int} {cap : Nat} (h : OwnsB w base (some ⟨g, 0, none⟩) l cap) (i : Nat) (v : Int) : OwnsB (w.setCell ⟨g, i, none⟩ (.int .u8 v)) base (some ⟨g, 0, none⟩) (l.set i v) cap :=
  h.put (fun cur hc => ⟨_, heap_setCell_same w g i _ _ (.int .u8 v) hc, by simp⟩) (by
    obtain ⟨cur, hc, k⟩ := h.bk
    refine ⟨cur.setIfInBounds i (.int .u8 v), heap_setCell_same w g i _ _ (.int .u8 v) hc, ?_⟩
    rw [List.length_set, Array.toList_setIfInBounds, List.take_set, k]
    simp [cellsB, List.map_set]) (by simp)
theorem all_set {l : List Int} (h : AllB l) {i : Nat} {v : Int} (v0 : 0 ≤ v) (v1 : v ≤ 255) : AllB (l.set i v) := fun x hx => by
  rcases List.mem_or_eq_of_mem_set hx with q | rfl
  · exact h x q
  · exact ⟨v0, v1⟩
theorem Mut.set {w : World} {B : Nat} {a : Option Addr} {n c : Nat} {os : List Ob} (h : Mut w B (.slice a n c) n os) {bg : Nat} {cu : Array Value} (hg : w.heap[bg]? = some (.cells cu 5 (0, 0))) (k : Nat) (v : Int) (v0 : 0 ≤ v) (v1 : v ≤ 255) : Mut (w.setCell ⟨bg, k, none⟩ (.int .u8 v)) B (.slice a n c) n os := by
  obtain ⟨rs, e1, e2, e3⟩ := h
  have on := Only.set bg k (.int .u8 v) w
  refine ⟨rs, e1, ?_, fun r hr => ?_⟩
  · obtain ⟨k0, k1 | ⟨g, c', cur, k1, k2, k3, k4⟩⟩ := e2
    · exact ⟨k0, .inl k1⟩
    · exact ⟨k0, .inr ⟨g, c', cur, k1, k2, by rw [on.block g (kind_ne k3 hg (by decide))]; exact k3, k4⟩⟩
  · obtain ⟨b, l', h1, h2, h3, h4⟩ := e3 r hr
    by_cases e : b = bg
    · subst e
      exact ⟨b, l'.set k v, h1, h2.setAny k v, by rw [List.length_set, h3], all_set h4 v0 v1⟩
    · exact ⟨b, l', h1, h2.same (fun g o hg' ho => by cases hg'; rw [on.block b e]; exact ho), h3, h4⟩
theorem Mut.at {w : World} {B : Nat} {a : Option Addr} {n c : Nat} {os : List Ob} (h : Mut w B (.slice a n c) n os) (hn : os.length = n) (i : Nat) (hi : i < n) : ∃ g bg ln bk, a = some ⟨g, 0, none⟩ ∧ w.cell? ⟨g, i * 4 + 2, none⟩ = some (.slice (some ⟨bg, 0, none⟩) ln bk) ∧ (∃ cu, w.heap[bg]? = some (.cells cu 5 (0, 0))) ∧ g ≠ bg ∧ B ≤ bg ∧ ln ≤ maxLen ∧ ∀ k, k < ln → ∃ x : Int, w.cell? ⟨bg, k, none⟩ = some (.int .u8 x) ∧ w.frozen? ⟨bg, k, none⟩ = false ∧ 0 ≤ x ∧ x ≤ 255 := by
  obtain ⟨rs, e1, e2, e3⟩ := h
  have hi' : i < rs.length := by omega
  obtain ⟨_, _, c2, _⟩ := Rob.cs_at rs i hi'
  obtain ⟨bg, l', h1, h2, h3, h4⟩ := e3 rs[i] (List.getElem_mem hi')
  obtain ⟨hB, cu, hcu⟩ := h2.kind bg rfl
  obtain ⟨k0, ⟨k1, kn⟩ | ⟨g, c', cur, k1, k2, k3, k4, k5, k6, k7⟩⟩ := e2
  · omega
  · cases k1
    have hj : i * 4 + 2 < n * 4 := by omega
    refine ⟨g, bg, rs[i].b.length, rs[i].bk, rfl, ?_, ⟨cu, hcu⟩, kind_ne k3 hcu (by decide), hB, (by obtain ⟨_, ⟨z1, _⟩ | ⟨_, _, _, z1, _, _, z3, z4, _⟩⟩ := h2; cases z1; cases z1; omega), fun k hk => ⟨l'.getD k 0, h2.bk.cell k (by rw [h3]; exact hk), h2.bk.thawed k, h4.at k⟩⟩
    rw [cell_of_row _ _ _ _ _ _ k3, ← Array.getElem?_toList]
    rw [← k7, List.getElem?_take_of_lt hj, h1] at c2
    exact c2
end Go.Proofs.YtebmegghojiegaaDoor
