/- Layer 19: bytes and numbers that grow side by side in new memory, with the set of sectors that were read. -/
import Derived.Test.YtgmmgklcndnehaaDoorChB
import Derived.Test.YtgmmgklcndnehaaDoorChC
namespace Go.Proofs.YtgmmgklcndnehaaDoor
open Go.RowKit Go.Maps
set_option linter.unusedVariables false
set_option maxRecDepth 4000

theorem Tryd.info3 : (Tryd.prog.info? 3).map (fun i => (i.zero, i.size, i.bytes)) = some (some (.int .i64 0), 1, 8) := by kernel_rfl
/-- Numbers in a block of one's own. -/
def OwnsI (w : World) (base : Nat) (a : Option Addr) (l : List Int) (cap : Nat) : Prop := w.ownsRow base 3 1 (.slice a l.length cap) l.length (l.map (Value.int .i64))
theorem appB_g (w : World) (base : Nat) (hbase : base ≤ w.heap.size) (as0 : Option Addr) (L : List Int) (cs : Nat) (hown : OwnsB w base as0 L cs) (ad : Addr) (l : List Int) (cx : Nat) (hB : IsB w (some ad) l) (hlen : L.length + l.length ≤ 140737488355328) :
    ∃ a' cap' w', (Builtin.append_ #[22, 22] 22 #[.slice as0 L.length cs, .slice (some ad) l.length cx]).run Tryd.prog w = .ok (.slice a' (L ++ l).length cap') w' ∧ OwnsB w' base a' (L ++ l) cap' ∧ w.grownBy w' (Value.slice as0 L.length cs).ownBlock := by
  obtain ⟨i0, hi, hz0, hz1, hz2⟩ := info_parts Tryd.info5
  obtain ⟨v', w', h1, h2, h3, _⟩ := run_append_own (P := Tryd.prog) w base 22 22 5 i0 (.int .u8 0) 1 1 Tryd.underlying22 hi hz0 hz1 hz2 rfl (by decide) _ L.length (L.map (Value.int .u8)) hown ad l.length cx (l.map (Value.int .u8)) (by simp) (by
      intro j u hj
      have hjn : j < l.length := by
        have := (List.getElem?_eq_some_iff.1 hj).1
        simpa using this
      obtain ⟨_, rfl | ⟨b, off, e, _, hc⟩⟩ := hB
      · simp at hjn
      · cases e
        rw [addr_add, hc j hjn]
        have e : (l.map (Value.int .u8))[j]? = some (Value.int .u8 (l.getD j 0)) := by simp [List.getD, List.getElem?_eq_getElem hjn]
        rw [e] at hj
        exact hj) (by intro u hu; obtain ⟨x, _, rfl⟩ := List.mem_map.1 hu; rfl) (by unfold maxLen; omega) (by omega) hbase
  obtain ⟨a', cap', rfl⟩ := owns_form h2
  exact ⟨a', cap', w', by rw [List.length_append]; exact h1, by simpa [OwnsB] using h2, h3⟩
theorem appI_g (w : World) (base : Nat) (hbase : base ≤ w.heap.size) (as0 : Option Addr) (L : List Int) (cs : Nat) (hown : OwnsI w base as0 L cs) (ad : Addr) (l : List Int) (cx : Nat) (hB : IsI w (some ad) l) (hL : L.length ≤ 100000) (hlen : l.length ≤ 100000) :
    ∃ a' cap' w', (Builtin.append_ #[23, 23] 23 #[.slice as0 L.length cs, .slice (some ad) l.length cx]).run Tryd.prog w = .ok (.slice a' (L ++ l).length cap') w' ∧ OwnsI w' base a' (L ++ l) cap' ∧ w.grownBy w' (Value.slice as0 L.length cs).ownBlock := by
  obtain ⟨i0, hi, hz0, hz1, hz2⟩ := info_parts Tryd.info3
  obtain ⟨v', w', h1, h2, h3, _⟩ := run_append_own (P := Tryd.prog) w base 23 23 3 i0 (.int .i64 0) 1 8 Tryd.underlying23 hi hz0 hz1 hz2 rfl (by decide) _ L.length (L.map (Value.int .i64)) hown ad l.length cx (l.map (Value.int .i64)) (by simp) (by
      intro j u hj
      have hjn : j < l.length := by
        have := (List.getElem?_eq_some_iff.1 hj).1
        simpa using this
      obtain ⟨_, rfl | ⟨b, off, e, _, hc⟩⟩ := hB
      · simp at hjn
      · cases e
        rw [addr_add, hc j hjn]
        have e : (l.map (Value.int .i64))[j]? = some (Value.int .i64 (l.getD j 0)) := by simp [List.getD, List.getElem?_eq_getElem hjn]
        rw [e] at hj
        exact hj) (by intro u hu; obtain ⟨x, _, rfl⟩ := List.mem_map.1 hu; rfl) (by unfold maxLen; omega) (by omega) hbase
  have hf : ∃ a' cap', v' = .slice a' (L.length + l.length) cap' := by
    obtain ⟨_, ⟨h4, h5⟩ | ⟨g, c', cur, h4, _⟩⟩ := h2
    · exact ⟨_, _, by rw [h4, h5]⟩
    · exact ⟨_, _, h4⟩
  obtain ⟨a', cap', rfl⟩ := hf
  exact ⟨a', cap', w', by rw [List.length_append]; exact h1, by simpa [OwnsI] using h2, h3⟩
/-- Numbers and bytes lie apart. -/
theorem own_apart {w : World} {b1 b2 : Nat} {oa ba : Option Addr} {O B : List Int} {oc bc : Nat} (h1 : OwnsI w b1 oa O oc) (h2 : OwnsB w b2 ba B bc) : ((Value.slice oa O.length oc).ownBlock = none ∨ (Value.slice oa O.length oc).ownBlock ≠ (Value.slice ba B.length bc).ownBlock) ∧ ((Value.slice ba B.length bc).ownBlock = none ∨ (Value.slice ba B.length bc).ownBlock ≠ (Value.slice oa O.length oc).ownBlock) := by
  obtain ⟨_, ⟨q, _⟩ | ⟨g, c', cur, q, hg, hr, _⟩⟩ := h1
  · rw [q]; exact ⟨.inl rfl, by
      obtain ⟨_, ⟨r, _⟩ | ⟨g2, c2, cur2, r, hg2, hr2, _⟩⟩ := h2
      · rw [r]; exact .inl rfl
      · rw [r]; exact .inr (by simp [Value.ownBlock])⟩
  · obtain ⟨_, ⟨r, _⟩ | ⟨g2, c2, cur2, r, hg2, hr2, _⟩⟩ := h2
    · rw [q, r]; exact ⟨.inr (by simp [Value.ownBlock]), .inl rfl⟩
    · have hne : g ≠ g2 := fun e => by
        subst e
        rw [hr] at hr2
        cases hr2
      rw [q, r]
      exact ⟨.inr (by simp [Value.ownBlock]; exact hne), .inr (by simp [Value.ownBlock]; exact fun e => hne e.symm)⟩
theorem ownI_blk {w : World} {b : Nat} {oa : Option Addr} {O : List Int} {oc : Nat} (h : OwnsI w b oa O oc) : ∀ k, (Value.slice oa O.length oc).ownBlock = some k → b ≤ k ∧ k < w.heap.size := World.ownsRow.lt h
theorem ownB_blk {w : World} {b : Nat} {oa : Option Addr} {O : List Int} {oc : Nat} (h : OwnsB w b oa O oc) : ∀ k, (Value.slice oa O.length oc).ownBlock = some k → b ≤ k ∧ k < w.heap.size := World.ownsRow.lt h
theorem OwnsI.keep {w w' : World} {base cap : Nat} {a : Option Addr} {l : List Int} (h : OwnsI w base a l cap) (hb : Below w.heap.size w w') : OwnsI w' base a l cap := by
  obtain ⟨q1, q2 | ⟨g', c', cur, r1, r2, r3, r4⟩⟩ := h
  · exact ⟨q1, .inl q2⟩
  · exact ⟨q1, .inr ⟨g', c', cur, r1, r2, by rw [hb.block g' (Array.getElem?_eq_some_iff.1 r3).1]; exact r3, r4⟩⟩
theorem ownsI_only {w w' : World} {base cap g : Nat} {a : Option Addr} {l : List Int} (h : OwnsI w base a l cap) (o : Only g w w') (hg : g < base) : OwnsI w' base a l cap := by
  obtain ⟨q1, q2 | ⟨g', c', cur, r1, r2, r3, r4⟩⟩ := h
  · exact ⟨q1, .inl q2⟩
  · exact ⟨q1, .inr ⟨g', c', cur, r1, r2, by rw [o.block g' (by omega)]; exact r3, r4⟩⟩
theorem ownsB_only {w w' : World} {base cap g : Nat} {a : Option Addr} {l : List Int} (h : OwnsB w base a l cap) (o : Only g w w') (hg : g < base) : OwnsB w' base a l cap := by
  obtain ⟨q1, q2 | ⟨g', c', cur, r1, r2, r3, r4⟩⟩ := h
  · exact ⟨q1, .inl q2⟩
  · exact ⟨q1, .inr ⟨g', c', cur, r1, r2, by rw [o.block g' (by omega)]; exact r3, r4⟩⟩
theorem ownsI_isI {w : World} {base : Nat} {a : Option Addr} {l : List Int} {cap : Nat} (hb : ∀ x ∈ l, -9223372036854775808 ≤ x ∧ x ≤ 9223372036854775807) (h : OwnsI w base a l cap) : IsI w a l := by
  refine ⟨hb, ?_⟩
  by_cases hl : l = []
  · exact .inl hl
  · have hp : 0 < l.length := List.length_pos_iff.2 hl
    have h' := h
    obtain ⟨_, ⟨q, q2⟩ | ⟨g, c', cur, q, _, hr, _⟩⟩ := h
    · omega
    · cases q
      refine .inr ⟨g, 0, rfl, (Array.getElem?_eq_some_iff.1 hr).1, fun i hi => ?_⟩
      have hc := World.ownsRow.cellAt h' i (by omega)
      rw [Nat.zero_add, hc]
      simp [List.getD, List.getElem?_eq_getElem hi]
theorem grown_belowD {N : Nat} {w0 w w' : World} {row : Option Nat} (h : Below N w0 w) (g : w.grownBy w' row) (hr : ∀ k, row = some k → N ≤ k) (hN : N ≤ w.heap.size) : Below N w0 w' :=
  ⟨g.os.trans h.os, g.tape.trans h.tape, g.output.trans h.output, Nat.le_trans h.size g.size, fun i hi => (g.block i (Nat.lt_of_lt_of_le hi hN) (fun e => by have := hr i e.symm; omega)).trans (h.block i hi)⟩
theorem one_isI (w : World) (x : Int) (hx : -9223372036854775808 ≤ x ∧ x ≤ 9223372036854775807) : IsI (w.alloc (.cells #[.int .i64 x] 3)) (some ⟨w.heap.size, 0, none⟩) [x] := by
  refine ⟨fun y hy => by rw [List.mem_singleton.1 hy]; exact hx, .inr ⟨w.heap.size, 0, rfl, by simp, fun i hi => ?_⟩⟩
  have hi : i < 1 := by simpa using hi
  obtain rfl : i = 0 := by omega
  simp

/-- What was read so far: bytes, sectors, the set of those. -/
structure RdS (w wr : World) (N : Nat) (ab : Option Addr) (cb : Nat) (bs : List Int) (as0 : Option Addr) (cs : Nat) (ss es : List Int) : Prop where
  ob : OwnsB wr (N + 1) ab bs cb
  oi : OwnsI wr (N + 1) as0 ss cs
  mp : MapE wr N es.length es
  bl : Below N w wr
section
variable {w wr : World} {N : Nat} {ab : Option Addr} {cb : Nat} {bs : List Int} {as0 : Option Addr} {cs : Nat} {ss es : List Int}
theorem RdS.le (h : RdS w wr N ab cb bs as0 cs ss es) : N + 1 ≤ wr.heap.size := h.mp.lt
theorem RdS.keep {w' : World} (h : RdS w wr N ab cb bs as0 cs ss es) (b : Below wr.heap.size wr w') : RdS w w' N ab cb bs as0 cs ss es :=
  ⟨h.ob.keep b, h.oi.keep b, h.mp.keep b, h.bl.trans (b.mono (Nat.le_of_lt h.le))⟩
theorem RdS.put (h : RdS w wr N ab cb bs as0 cs ss es) (hn : es.length < 1000000) {i : Int} (hi : -9223372036854775808 ≤ i ∧ i ≤ 9223372036854775807) :
    ∃ w', (Instr.mapUpdate 95 (.map (some N)) (.int .i64 i) (.agg #[])).run Tryd.prog wr = .ok () w' ∧ RdS w w' N ab cb bs as0 cs ss (es ++ [i]) ∧ w'.heap.size = wr.heap.size ∧ Only N wr w' := by
  obtain ⟨w', h1, h2, h3⟩ := h.mp.store hn hi
  have on := turned_only h3
  exact ⟨w', h1, ⟨ownsB_only h.ob on (Nat.lt_succ_self _), ownsI_only h.oi on (Nat.lt_succ_self _), by rw [List.length_append]; exact h2, h.bl.trans (on.below (Nat.le_refl _))⟩, on.size, on⟩
theorem MapE.grown {w w' : World} {b n : Nat} {L : List Int} {row : Option Nat} (h : MapE w b n L) (g : w.grownBy w' row) (hr : ∀ k, row = some k → b < k) : MapE w' b n L :=
  h.same (fun o ho _ => by rw [g.block b h.lt (fun e => by have := hr b e.symm; omega)]; exact ho)
theorem RdS.addB (h : RdS w wr N ab cb bs as0 cs ss es) (ad : Addr) (l : List Int) (n cx : Nat) (hn : l.length = n) (hB : IsB wr (some ad) l) (hL : bs.length + l.length ≤ 140737488355328) :
    ∃ a' c' w', (Builtin.append_ #[22, 22] 22 #[.slice ab bs.length cb, .slice (some ad) n cx]).run Tryd.prog wr = .ok (.slice a' (bs ++ l).length c') w' ∧ RdS w w' N a' c' (bs ++ l) as0 cs ss es := by
  subst hn
  obtain ⟨a', c', w', h1, h2, g⟩ := appB_g wr (N + 1) h.le ab bs cb h.ob ad l cx hB hL
  have hk := ownB_blk h.ob
  exact ⟨a', c', w', h1, h2, World.ownsRow.kept h.oi g (own_apart h.oi h.ob).1, h.mp.grown g (fun k e => (hk k e).1), grown_belowD h.bl g (fun k e => by have := (hk k e).1; omega) (Nat.le_of_lt h.le)⟩
theorem RdS.addI (h : RdS w wr N ab cb bs as0 cs ss es) (x : Int) (hx : -9223372036854775808 ≤ x ∧ x ≤ 9223372036854775807) (hL : ss.length ≤ 100000) :
    ∃ a' c' w', (Builtin.append_ #[23, 23] 23 #[.slice as0 ss.length cs, .slice (some ⟨wr.heap.size, 0, none⟩) 1 1]).run Tryd.prog (wr.alloc (.cells #[.int .i64 x] 3)) = .ok (.slice a' (ss ++ [x]).length c') w' ∧ RdS w w' N ab cb bs a' c' (ss ++ [x]) es := by
  have b0 : Below wr.heap.size wr (wr.alloc (.cells #[.int .i64 x] 3)) := (Below.refl _ wr).alloc (Nat.le_refl _) _
  have h1 := h.keep b0
  obtain ⟨a', c', w', h2, h3, g⟩ := appI_g _ (N + 1) h1.le as0 ss cs h1.oi ⟨wr.heap.size, 0, none⟩ [x] 1 (one_isI wr x hx) hL (by simp)
  have hk := ownI_blk h1.oi
  exact ⟨a', c', w', h2, World.ownsRow.kept h1.ob g (own_apart h1.oi h1.ob).2, h3, h1.mp.grown g (fun k e => (hk k e).1), grown_belowD h1.bl g (fun k e => by have := (hk k e).1; omega) (Nat.le_of_lt h1.le)⟩
end
end Go.Proofs.YtgmmgklcndnehaaDoor
