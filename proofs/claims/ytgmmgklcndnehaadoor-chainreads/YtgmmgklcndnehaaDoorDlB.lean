/- What the document's Write answers. -/
import Derived.Test.YtgmmgklcndnehaaDoorDlA
namespace Go.Proofs.YtgmmgklcndnehaaDoor
open Go.RowKit Go.Maps
set_option linter.unusedVariables false
set_option maxRecDepth 4000

theorem RefAt.pushed {w W w3 : World} {base br cs cw k c3 q : Nat} {as0 aw a3 : Option Addr} {gs hs : List Nat} {ok : Nat → Prop} {d : Dk} {l : List Int} (h : RefAt w base br as0 cs gs aw cw hs ok d) (hb : Below w.heap.size w W)
    (hg : W.grownBy w3 (Value.slice aw d.pend.length cw).ownBlock) (r3 : RowQ w3 base a3 (zipQ d.pend hs ++ [(k, q)]) c3) (hq : RowB W q 5 (secL l)) (hok : ok q) :
    RefAt (w3.setCell ⟨br, 1, none⟩ (.slice a3 (d.pend.length + 1) c3)) base br as0 cs gs a3 c3 (hs ++ [q]) ok (pushD d k l) ∧ w3.heap[br]? = some (.cells (rboxC as0 gs.length cs aw d.pend.length cw d) 91 (0, 0)) ∧ Turn base KR w (w3.setCell ⟨br, 1, none⟩ (.slice a3 (d.pend.length + 1) c3)) := by
  have keepW : ∀ (i : Nat) (o : Obj), w.heap[i]? = some o → W.heap[i]? = some o := fun i o ho => by rw [hb.block i (Array.getElem?_eq_some_iff.1 ho).1]; exact ho
  have hwait : RowQ W base aw (zipQ d.pend hs) cw := owns_keepK (K := fun _ => true) h.wait (fun _ => rfl) (fun i o ho _ => keepW i o ho)
  have hkq := owns_kind (zipQ_len h.hl).symm hwait
  have hN : ∀ (j : Nat) (o : Obj), W.heap[j]? = some o → (∀ cur, o ≠ .cells cur 94 (0, 0)) → w3.heap[j]? = some o := fun j o ho hne => by
    rw [hg.block j (Array.getElem?_eq_some_iff.1 ho).1 (fun e => by
      obtain ⟨_, cur, hc⟩ := hkq j e.symm
      rw [ho] at hc
      cases hc
      exact hne cur rfl)]
    exact ho
  have hbx3 := hN br _ (keepW _ _ h.box) (fun cur e => by simp at e)
  have hel := set_else w3 br 1 (.slice a3 (d.pend.length + 1) c3)
  have hrow : ∀ g l', RowB W g 5 l' → RowB (w3.setCell ⟨br, 1, none⟩ (.slice a3 (d.pend.length + 1) c3)) g 5 l' := fun g l' hr => RowB.else' (hN g _ hr (fun cur e => by simp at e)) hbx3 (by decide) hel
  refine ⟨⟨?_, ?_, ?_, h.gl, by simp [pushD, h.hl], fun i hi => ?_, fun j hj hj' => ?_, h.ge⟩, hbx3, ?_⟩
  · exact set_same _ _ _ _ _ _ _ hbx3 (by simp [rboxC, pushD])
  · have h1 : RowG W base as0 gs cs := owns_keepK (K := fun _ => true) h.sure (fun _ => rfl) (fun i o ho _ => keepW i o ho)
    have h2 : RowG w3 base as0 gs cs := by
      obtain ⟨e0, e1 | ⟨g, c', cur, e1, eg, e2, e3⟩⟩ := h1
      · exact ⟨e0, .inl e1⟩
      · exact ⟨e0, .inr ⟨g, c', cur, e1, eg, hN g _ e2 (fun cur' e => by simp at e), e3⟩⟩
    exact owns_else h2 hbx3 (by decide) hel
  · show RowQ _ base a3 (zipQ (d.pend ++ [⟨k, secL l⟩]) (hs ++ [q])) c3
    rw [zipQ_snoc _ _ h.hl]
    exact owns_else r3 hbx3 (by decide) hel
  · exact ⟨hrow _ _ ((h.secs i hi).1.keep hb), (h.secs i hi).2⟩
  · have hjl : j < hs.length + 1 := by simpa using hj
    have hj2 : j < (d.pend ++ [(⟨k, secL l⟩ : Wr)]).length := hj'
    show RowB _ (hs ++ [q])[j] 5 ((d.pend ++ [(⟨k, secL l⟩ : Wr)])[j]'hj2).by ∧ ok (hs ++ [q])[j]
    by_cases e : j < hs.length
    · have e' : j < d.pend.length := by rw [← h.hl]; exact e
      rw [List.getElem_append_left e, List.getElem_append_left e']
      exact ⟨hrow _ _ ((h.pends j e e').1.keep hb), (h.pends j e e').2⟩
    · obtain rfl : j = hs.length := by omega
      have e2 : ((d.pend ++ [(⟨k, secL l⟩ : Wr)])[hs.length]'hj2).by = secL l := by simp [h.hl]
      rw [e2]
      simp only [List.getElem_append_right (Nat.le_refl _), Nat.sub_self, List.getElem_cons_zero]
      exact ⟨hrow _ _ hq, hok⟩
  · refine ((Turn.ofBelow hb).trans (Turn.ofGrown hg (fun j hj => ?_))).trans (rset_turn hbx3 h.ge)
    obtain ⟨h1, cur, h2⟩ := hkq j hj
    exact ⟨h1, fun o ho => by rw [h2] at ho; cases ho; rfl⟩

/-! The operations of 'd.Wait = append(d.Wait, Pend{i, sector(b)})', whose order the model draws. -/
end Go.Proofs.YtgmmgklcndnehaaDoor
