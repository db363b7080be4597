/- A view slid together by the law: what is held of it on its way. -/
import Derived.Test.YtebmegghojiegaaDoorGsQ
import Derived.Test.YtebmegghojiegaaDoorBcD
import Derived.Test.YtebmegghojiegaaDoorBeB
import Derived.Test.YtebmegghojiegaaDoorLeF
namespace Go.Proofs.YtebmegghojiegaaDoor
open Go.RowKit
set_option linter.unusedVariables false
set_option linter.unusedSimpArgs false

theorem ownsB_isL {w : World} {base : Nat} {a : Option Addr} {l : List Int} {cap : Nat} (h : OwnsB w base a l cap) : l.length ≤ cap ∧ cap ≤ maxLen ∧ (a = none → l = [] ∧ cap = 0) := by
  obtain ⟨_, ⟨h1, h2⟩ | ⟨g, c', cur, h1, hg, h2, h3, h4, _⟩⟩ := h
  · simp only [Value.slice.injEq] at h1
    obtain ⟨rfl, h1, rfl⟩ := h1
    exact ⟨by omega, Nat.zero_le _, fun _ => ⟨List.eq_nil_of_length_eq_zero h2, rfl⟩⟩
  · cases h1
    exact ⟨h3, h4, by simp⟩
theorem IsB.part {w : World} {bb off : Nat} {b : List Int} (h : IsB w (some ⟨bb, off, none⟩) b) (o k : Nat) : IsB w (some ⟨bb, off + o, none⟩) ((b.drop o).take k) := by
  obtain ⟨hb, h0 | ⟨b', off', e, h1, h2⟩⟩ := h
  · subst h0; exact ⟨by simp, .inl (by simp)⟩
  · simp only [Option.some.injEq, Addr.mk.injEq, and_true] at e
    obtain ⟨rfl, rfl⟩ := e
    refine ⟨fun x hx => hb x (List.mem_of_mem_drop (List.mem_of_mem_take hx)), .inr ⟨bb, off + o, rfl, h1, fun i hi => ?_⟩⟩
    simp at hi
    rw [show off + o + i = off + (o + i) from by omega, h2 (o + i) (by omega)]
    simp [List.getD_eq_getElem?_getD, List.getElem?_drop, show i < k by omega]
/-- Bytes copied into bytes of one's own. -/
theorem copy_own (w : World) (base g o n dc cap : Nat) (l s : List Int) (a : Addr) (sc : Nat) (hg : OwnsB w base (some ⟨g, 0, none⟩) l cap) (hB : IsB w (some a) s) (hs : s.length = n) (hfit : o + n ≤ l.length) (h0 : 0 < n) :
    ∃ w1, (∀ ty, (Builtin.copy_ #[25, 25] ty #[.slice (some ⟨g, o, none⟩) n dc, .slice (some a) n sc]).run Tryd.prog w = .ok (goInt n) w1) ∧ OwnsB w1 base (some ⟨g, 0, none⟩) (overR l o s) cap ∧ Only g w w1 := by
  obtain ⟨cur, hc, hk⟩ := hg.bk
  have hz := Byk.size hk
  have e : (cellsB s).length = n := by rw [cellsB_len]; exact hs
  have hrun := fun ty => run_copy_row (P := Tryd.prog) w 25 25 ty 5 g o n dc a n sc cur 5 (cellsB s) Tryd.underlying25 size1 hc (by rw [e]; exact (Nat.min_self n).symm) (by
      intro j v hv
      have hj : j < s.length := by rw [hs, ← e]; exact (List.getElem?_eq_some_iff.1 hv).1
      obtain ⟨_, q | ⟨b, off, q, _, hcc⟩⟩ := hB
      · rw [q] at hj; simp at hj
      · cases q
        rw [addr_add, hcc j hj, ← hv, cellsB_at _ j hj]) (by rw [e]; omega) (cellsB_one _)
  rw [e] at hrun
  refine ⟨_, hrun, ?_, Only.setRow _ _ _⟩
  have hh : (w.setRow g (cur.toList.take o ++ cellsB s ++ cur.toList.drop (o + n)).toArray).heap[g]? = some (.cells (cur.toList.take o ++ cellsB s ++ cur.toList.drop (o + n)).toArray 5 (0, 0)) := setRow_heap w g _ _ 5 _ hc
  have hl : (overR l o s).length = l.length := by simp [overR]; omega
  refine hg.put (fun cur2 hc2 => ⟨_, hh, ?_⟩) ⟨_, hh, ?_⟩ hl
  · rw [hc] at hc2
    cases hc2
    simp [e]
    omega
  · rw [hl]
    have e1 : cur.toList = cellsB l ++ cur.toList.drop l.length := by rw [← hk, List.take_append_drop]
    have e2 : (cellsB l).length = l.length := cellsB_len l
    have e3 : cur.toList.take o = cellsB (l.take o) := by
      rw [e1, List.take_append_of_le_length (by omega)]; simp [cellsB]
    have e4 : cur.toList.drop (o + n) = cellsB (l.drop (o + n)) ++ cur.toList.drop l.length := by
      rw [e1, List.drop_append_of_le_length (by omega), ← e1]; simp [cellsB]
    show (cur.toList.take o ++ cellsB s ++ cur.toList.drop (o + n)).take l.length = _
    rw [e3, e4]
    have e5 : cellsB (l.take o) ++ cellsB s ++ (cellsB (l.drop (o + n)) ++ cur.toList.drop l.length) = cellsB (overR l o s) ++ cur.toList.drop l.length := by
      simp [cellsB, overR, hs]
    rw [e5, List.take_append_of_le_length (by rw [cellsB_len, hl]; exact Nat.le_refl _), List.take_of_length_le (by rw [cellsB_len, hl]; exact Nat.le_refl _)]
theorem step_copy {ops : Array Oper} {o : Oper} {a : Act} {K : Act → World → Prop} {Q : Exit → Act → World → Prop} {E : Prop} {w : World} (hgd : o.guard = none) (s x : Operand) (t : TypeId)
    (ho : o.op = .call { callee := .builtin .copy, args := #[s, x], argTypes := #[t, t] }) (v1 v2 : Value) (hs : a.eval s = v1) (hx : a.eval x = v2) (v' : Value) (w' : World)
    (hr : (Builtin.copy_ #[t, t] o.type #[v1, v2]).run Tryd.prog w = .ok v' w') (h : K (a.put o.dst v') w') :
    if Region.wanted o (yielded ops a.tmps) = true then Oper.wp Tryd.prog o a w K Q else E := by
  have hw : Region.wanted o (yielded ops a.tmps) = true := by simp [Region.wanted, hgd]
  rw [if_pos hw]
  unfold Oper.wp execOp
  simp only [ho, resolve, invoke, builtin, Sem.run_bind, Sem.run_pure, Result.andThen_ok, List.map_toArray, List.map_cons, List.map_nil, hs, hx, hr]
  exact h

theorem rget_of (a : Option Addr) (cap n : Nat) (l : List Int) (v : Int) (w : World) (hn : n = l.length) (hv : getL (l.take 8) = v) (h : IsB w a l) (hm : l.length ≤ maxLen) :
    Calls Tryd.prog 45 #[.slice a n cap] w fun e w' => e = .returned (.int .u64 v) ∧ w = w' := by
  subst hn hv; exact rget_any a cap l w h hm

/-- A view on its way, with the moves beside it. -/
structure Sld (E wz : World) (vr v5 : Nat) (U : Vw) (A : Va) (gr gb : Nat) (MV : List Mv) (am : Option Addr) (cm : Nat) : Prop where
  rg : wz.heap[v5]? = some (.cells #[.int .i64 U.base, .int .i64 U.pgs, .slice A.ka A.kn A.kc, .slice A.ra A.rn A.rc, .slice A.sa A.sn A.sc, .slice A.ba A.bn A.bc] 27 (0, 0))
  r0 : wz.heap[vr]? = some (.cells zV 27 (0, 0))
  cp : Cpy wz E.heap.size U A gr gb
  mv : Vs wz E.heap.size am MV cm
  bw : Bl E wz
theorem Sld.keep {E wz wy : World} {vr v5 : Nat} {U : Vw} {A : Va} {gr gb : Nat} {MV : List Mv} {am : Option Addr} {cm : Nat} (h : Sld E wz vr v5 U A gr gb MV am cm) (b : Bl wz wy) : Sld E wy vr v5 U A gr gb MV am cm :=
  ⟨b.row h.rg, b.row h.r0, h.cp.keep b, h.mv.keep b, h.bw.trans b⟩
theorem Vs.other {w w' : World} {B : Nat} {a : Option Addr} {l : List Mv} {c : Nat} (h : Vs w B a l c) (he : ∀ (g : Nat) (cur : Array Value) (t : TypeId), w.heap[g]? = some (.cells cur t (0, 0)) → t = 92 → w'.heap[g]? = some (.cells cur t (0, 0))) : Vs w' B a l c :=
  h.same (fun g o hg ho => by
    obtain ⟨_, _, cur, hc⟩ := h.ge g hg
    rw [ho] at hc; cases hc
    exact he g cur _ ho rfl)
theorem Sld.lay {E wz wy : World} {vr v5 : Nat} {U : Vw} {A : Va} {gr gb : Nat} {MV : List Mv} {am : Option Addr} {cm : Nat} (h : Sld E wz vr v5 U A gr gb MV am cm) {cur' : List Int} (t : Tg gb wz wy) (o : OwnsB wy E.heap.size (some ⟨gb, 0, none⟩) cur' A.bc) (hl : cur'.length = U.bs.length) : Sld E wy vr v5 ⟨U.base, U.pgs, U.ks, U.rs, U.ts, cur'⟩ A gr gb MV am cm := by
  obtain ⟨hg, c, hc⟩ := h.cp.bytes.kind gb rfl
  exact ⟨by rw [t.block v5 (hlt h.rg) (kind_ne h.rg hc (by decide))]; exact h.rg, by rw [t.block vr (hlt h.r0) (kind_ne h.r0 hc (by decide))]; exact h.r0, h.cp.byted t o hl,
    h.mv.other (fun g cur u hg' hu => by rw [t.block g (hlt hg') (kind_ne hg' hc (by rw [hu]; decide))]; exact hg'), Below.trans h.bw (t.below hg (Below.size h.bw))⟩
theorem Sld.row {E wz wy : World} {vr v5 : Nat} {U : Vw} {A : Va} {gr gb : Nat} {MV : List Mv} {am : Option Addr} {cm : Nat} (h : Sld E wz vr v5 U A gr gb MV am cm) {rs : List HRw} (t : Only gr wz wy) (o : Ow wy E.heap.size (some ⟨gr, 0, none⟩) rs A.rc) (hl : rs.length = U.rs.length) : Sld E wy vr v5 ⟨U.base, U.pgs, U.ks, rs, U.ts, U.bs⟩ A gr gb MV am cm := by
  obtain ⟨c, hc⟩ := h.cp.rows.kind gr rfl
  have hg : E.heap.size ≤ gr := by
    obtain ⟨h0, ⟨h1, _⟩ | ⟨g', c', cur, h1, hb, _⟩⟩ := h.cp.rows
    · cases h1
    · cases h1; exact hb
  exact ⟨by rw [t.block v5 (kind_ne h.rg hc (by decide))]; exact h.rg, by rw [t.block vr (kind_ne h.r0 hc (by decide))]; exact h.r0, h.cp.rowed t o hl,
    h.mv.other (fun g cur u hg' hu => by rw [t.block g (kind_ne hg' hc (by rw [hu]; decide))]; exact hg'), Below.trans h.bw (t.below hg)⟩
/-- Other spans are laid into the view's box. -/
theorem Sld.spans {E wz : World} {vr v5 : Nat} {U : Vw} {A : Va} {gr gb : Nat} {MV : List Mv} {am : Option Addr} {cm : Nat} (h : Sld E wz vr v5 U A gr gb MV am cm) (hv : E.heap.size ≤ v5) (hne : v5 ≠ vr) {ts : List Td} {a1 : Option Addr} {n1 c1 : Nat} (ht : Told wz E.heap.size (.slice a1 n1 c1) ts) (hn : ts.length = n1) : Sld E (wz.setCell ⟨v5, 4, none⟩ (.slice a1 n1 c1)) vr v5 ⟨U.base, U.pgs, U.ks, U.rs, ts, U.bs⟩ ⟨A.ka, A.ra, a1, A.ba, A.kn, A.rn, n1, A.bn, A.kc, A.rc, c1, A.bc⟩ gr gb MV am cm := by
  have on := Only.set v5 4 (.slice a1 n1 c1) wz
  have ot : ∀ (g : Nat) (c : Array Value) (t : TypeId), wz.heap[g]? = some (.cells c t (0, 0)) → t ≠ 27 → (wz.setCell ⟨v5, 4, none⟩ (.slice a1 n1 c1)).heap[g]? = some (.cells c t (0, 0)) := fun g c t hg ht => by rw [on.block g (kind_ne hg h.rg ht)]; exact hg
  have q := h.cp.boxed ot
  refine ⟨?_, by rw [on.block vr (Ne.symm hne)]; exact h.r0, ⟨q.ra, q.ba, q.rn, hn, q.bn, q.kn, q.rows, ht.same (fun g c t hg htt => ot g c t hg (by rcases htt with rfl | rfl <;> decide)), q.bytes, q.kinds⟩, h.mv.other (fun g c t hg htt => ot g c t hg (by rw [htt]; decide)), Below.trans h.bw (on.below hv)⟩
  rw [heap_setCell_same wz v5 4 _ _ _ h.rg]
  rfl
/-- Rows half turned. -/
def rowsK (V : Vw) (k : Nat) : List HRw := (V.rs.take k).map (slRw (phV V)) ++ V.rs.drop k
theorem rowsK_len (V : Vw) (k : Nat) : (rowsK V k).length = V.rs.length := by
  unfold rowsK; simp; omega
theorem rowsK_zero (V : Vw) : rowsK V 0 = V.rs := by simp [rowsK]
theorem rowsK_full (V : Vw) {k : Nat} (h : V.rs.length ≤ k) : rowsK V k = V.rs.map (slRw (phV V)) := by
  unfold rowsK; rw [List.take_of_length_le h, List.drop_of_length_le h, List.append_nil]
theorem rowsK_dead {V : Vw} {k : Nat} (hk : k < V.rs.length) (hl : (rwD V.rs k).live = false) : rowsK V (k + 1) = rowsK V k := by
  unfold rowsK
  rw [List.take_succ_eq_append_getElem hk, List.map_append, List.drop_eq_getElem_cons hk, List.append_assoc]
  rw [rwD_at hk] at hl
  simp [slRw_dead hl]
theorem rowsK_at {V : Vw} {k : Nat} (hk : k < V.rs.length) : rwD (rowsK V k) k = rwD V.rs k := by
  unfold rwD rowsK
  rw [List.getD_eq_getElem?_getD, List.getD_eq_getElem?_getD, List.getElem?_append_right (by simp; omega)]
  have : k - ((V.rs.take k).map (slRw (phV V))).length = 0 := by simp; omega
  rw [this, List.getElem?_drop, Nat.add_zero]
theorem rowsK_live {V : Vw} {k : Nat} (hk : k < V.rs.length) (hl : (rwD V.rs k).live = true) : (rowsK V k).set k { rwD (rowsK V k) k with pl := phV V (rwD V.rs k).pl } = rowsK V (k + 1) := by
  rw [rowsK_at hk]
  have e1 : slRw (phV V) (rwD V.rs k) = { rwD V.rs k with pl := phV V (rwD V.rs k).pl } := by unfold slRw; rw [if_pos hl]
  unfold rowsK
  rw [List.take_succ_eq_append_getElem hk, List.map_append, List.drop_eq_getElem_cons hk, List.append_assoc, List.set_append_right _ _ (by simp; omega), ← e1]
  have : k - ((V.rs.take k).map (slRw (phV V))).length = 0 := by simp; omega
  rw [this, List.set_cons_zero, rwD_at hk]
  rfl
theorem fldP_dead {V : Vw} {k : Nat} (hl : (rwD V.rs k).live = false) : fldP V (k + 1) = fldP V k := by
  show fldP V k ++ _ = _
  rw [if_neg (by rw [hl]; decide), List.append_nil]
theorem fldP_live {V : Vw} {k : Nat} (hl : (rwD V.rs k).live = true) : fldP V (k + 1) = fldP V k ++ fldQ V k := by
  show fldP V k ++ _ = _
  rw [if_pos hl]
theorem fldQ_take {V : Vw} {k m : Nat} (hm : m < (psOf V k).length) : (fldQ V k).take (m + 1) = (fldQ V k).take m ++ [((rwD V.rs k).pl + (psOf V k).getD m 0, phV V (rwD V.rs k).pl + (psOf V k).getD m 0)] := by
  have hl : m < (fldQ V k).length := by unfold fldQ; rw [List.length_map]; exact hm
  rw [List.take_succ_eq_append_getElem hl]
  have e : (psOf V k).getD m 0 = (psOf V k)[m] := by simp [List.getD, hm]
  have e2 : (fldQ V k)[m] = ((rwD V.rs k).pl + (psOf V k)[m], phV V (rwD V.rs k).pl + (psOf V k)[m]) := List.getElem_map _
  rw [e, e2]
end Go.Proofs.YtebmegghojiegaaDoor
