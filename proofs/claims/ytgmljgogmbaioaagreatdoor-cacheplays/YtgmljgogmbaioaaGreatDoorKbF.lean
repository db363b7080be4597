/- What all spans tell. -/
import Derived.Test.YtgmljgogmbaioaaGreatDoorKbE
namespace Go.Proofs.YtgmljgogmbaioaaGreatDoor
open Go.RowKit
set_option linter.unusedVariables false
set_option maxRecDepth 4000

/-- A span that is told. -/
structure Td where
  (p c s : Int) (l : List Int)
/-- Its row. -/
structure Rw extends Td where
  (a : Option Addr) (k : Nat)
def Rw.cs (r : Rw) : List Value := [.int .i64 r.p, .int .i64 r.c, .int .i64 r.s, .slice r.a r.l.length r.k]
/-- Spans that are told: rows of one's own, and each one's numbers. -/
def Told (w : World) (B : Nat) (v : Value) (ts : List Td) : Prop := ∃ rs : List Rw, rs.map Rw.toTd = ts ∧ w.ownsRow B 48 4 v ts.length (rs.flatMap Rw.cs) ∧ ∀ r ∈ rs, OwnsI w B r.a r.l r.k
theorem Told.nil (w : World) (B : Nat) : Told w B (.slice none 0 0) [] := ⟨[], rfl, World.ownsRow_nil _ _ _ _, fun r h => by cases h⟩
theorem ownsRow_keepB {w w' : World} {B : Nat} {e : TypeId} {size : Nat} {v : Value} {n : Nat} {xs : List Value} (h : w.ownsRow B e size v n xs) (hb : Below w.heap.size w w') : w'.ownsRow B e size v n xs := by
  obtain ⟨h0, h1 | ⟨g, c', cur, h1, hg, h2, h3⟩⟩ := h
  · exact ⟨h0, .inl h1⟩
  · exact ⟨h0, .inr ⟨g, c', cur, h1, hg, by rw [hb.block g (Array.getElem?_eq_some_iff.1 h2).1]; exact h2, h3⟩⟩
theorem Told.keep {w w' : World} {B : Nat} {v : Value} {ts : List Td} (h : Told w B v ts) (hb : Below w.heap.size w w') : Told w' B v ts := by
  obtain ⟨rs, h1, h2, h3⟩ := h
  exact ⟨rs, h1, ownsRow_keepB h2 hb, fun r hr => (h3 r hr).keep hb⟩
theorem ownsRow_geB {w : World} {B : Nat} {e : TypeId} {size : Nat} {v : Value} {n : Nat} {xs : List Value} (h : w.ownsRow B e size v n xs) : ∀ j, v.ownBlock = some j → B ≤ j := by
  intro j hj
  obtain ⟨_, ⟨h1, h2⟩ | ⟨g, c', cur, h1, hg, h2, _⟩⟩ := h
  · rw [h1] at hj; simp [Value.ownBlock] at hj
  · rw [h1] at hj
    simp [Value.ownBlock] at hj
    omega
theorem own_grown {w w' : World} {B : Nat} {v : Value} {n : Nat} {xs : List Value} {a : Option Addr} {l : List Int} {cap : Nat} (h : OwnsI w B a l cap) (hr : w.ownsRow B 48 4 v n xs) (hg : w.grownBy w' v.ownBlock) : OwnsI w' B a l cap := by
  obtain ⟨h0, h1 | ⟨g, c', cur, h1, hb, h2, h3⟩⟩ := h
  · exact ⟨h0, .inl h1⟩
  · refine ⟨h0, .inr ⟨g, c', cur, h1, hb, ?_, h3⟩⟩
    rw [hg.block g (Array.getElem?_eq_some_iff.1 h2).1 (fun e => ?_)]
    · exact h2
    · obtain ⟨_, ⟨k1, _⟩ | ⟨g', _, cur', k1, _, k2, _⟩⟩ := hr
      · rw [k1] at e; cases e
      · rw [k1] at e
        have : g = g' := by simpa [Value.ownBlock] using e
        subst this
        rw [h2] at k2
        simp at k2
theorem Told.form {w : World} {B : Nat} {v : Value} {ts : List Td} (h : Told w B v ts) : ∃ a c, v = .slice a ts.length c := by
  obtain ⟨rs, _, ⟨_, ⟨k1, k2⟩ | ⟨g, c, cur, k1, _⟩⟩, _⟩ := h
  · exact ⟨none, 0, by rw [k1, k2]⟩
  · exact ⟨_, _, k1⟩
theorem Tryz.infoSpan : (Tryz.prog.info? 48).map (fun i => (i.zero, i.size, i.bytes)) = some (some (.agg #[.int .i64 0, .int .i64 0, .int .i64 0, .slice none 0 0]), 4, 48) := by kernel_rfl
theorem Tryz.undSpans : Tryz.prog.underlying 41 = some (.slice 48) := by kernel_rfl
theorem wpList_told {ops : Array Oper} {rest : List Oper} {o : Oper} {a : Act} {Q : Exit → Act → World → Prop} {w : World} (hgd : o.guard = none) (s x : Operand)
    (ho : o.op = .call { callee := .builtin .append, args := #[s, x], argTypes := #[41, 41] })
    (B : Nat) (hB : B ≤ w.heap.size) (as0 : Option Addr) (n0 cs : Nat) (ts : List Td) (hs : a.eval s = .slice as0 n0 cs) (hn0 : ts.length = n0) (hown : Told w B (.slice as0 n0 cs) ts)
    (g c : Nat) (r : Rw) (n : Nat) (hn : r.l.length = n) (hx : a.eval x = .slice (some ⟨g, 0, none⟩) 1 c) (hg : w.heap[g]? = some (.cells (dcells r.p r.c r.s r.a n r.k) 48 (0, 0))) (hr : OwnsI w B r.a r.l r.k) (hlen : ts.length ≤ 100000)
    (h : ∀ a' c' w', Told w' B (.slice a' (n0 + 1) c') (ts ++ [r.toTd]) → Below B w w' → wpList Tryz.prog ops Q rest (a.put o.dst (.slice a' (n0 + 1) c')) w') :
    wpList Tryz.prog ops Q (o :: rest) a w := by
  subst hn
  subst hn0
  obtain ⟨i0, hi, hz0, hz1, hz2⟩ := info_parts Tryz.infoSpan
  obtain ⟨rs, e1, e2, e3⟩ := hown
  refine wpList_append_own w hgd s x 41 ho B 48 i0 _ 4 48 Tryz.undSpans hi hz0 hz1 hz2 rfl (by decide) _ _ _ hs e2 ⟨g, 0, none⟩ 1 c r.cs hx rfl ?_ ?_ (by unfold maxLen; omega) (by omega) hB ?_
  · intro j u hj
    rw [show (⟨g, 0, none⟩ : Addr).add j = ⟨g, j, none⟩ by simp [Addr.add]; exact fun h => h.symm, cell_of_row w g j _ _ _ hg]
    show (r.cs.toArray)[j]? = some u
    rw [List.getElem?_toArray]; exact hj
  · intro u hu
    simp [Rw.cs] at hu
    rcases hu with rfl | rfl | rfl | rfl <;> rfl
  · intro v' w' h1 h2 h3
    have T : Told w' B v' (ts ++ [r.toTd]) := by
      refine ⟨rs ++ [r], by rw [List.map_append, e1]; rfl, ?_, fun q hq => ?_⟩
      · rw [List.flatMap_append, List.length_append]
        simpa using h1
      · rcases List.mem_append.1 hq with k | k
        · exact own_grown (e3 q k) e2 h2
        · obtain rfl : q = r := by simpa using k
          exact own_grown hr e2 h2
    obtain ⟨a', c', e⟩ := T.form
    subst e
    rw [List.length_append] at T ⊢
    exact h a' c' w' T ((Below.refl _ w).grown h2 hB (ownsRow_geB e2))
/-- What a span of a cache tells. -/
def tellT (W : Nat) (m : List Sg) (s : Sg) : Td := ⟨(s.pg : Int), (s.cl : Int), (s.bts : Int), tellF W m s (lsL s.f (slN (s.cl : Int)))⟩
def lenW : Value → Nat
  | .int _ i => i.toNat
  | _ => 0
set_option maxHeartbeats 1000000 in
theorem kspans_any (L : Nat → Nat) (cb P W : Nat) (m : List Sg) (w : World) (h : Ca w L cb P W m) (ho : Okc P W m) :
    Calls Tryz.prog 20 #[.pointer (some ⟨cb, 0, none⟩)] w fun e w' => ∃ v, e = .returned v ∧ Told w' w.heap.size v (m.map (tellT W m)) ∧ Below w.heap.size w w' := by
  obtain ⟨fb, hb, a, cap, ps, sh, hC⟩ := h
  have HO : Hid (Okc P W m) := ho
  have HC : Hid (Cm w L cb fb hb a cap ps sh P W (pgF m) m (Kof m)) := hC
  have c1 := hC.cell1
  have hP := ho.p1
  have hml := ho.fit.len
  obtain ⟨n, hn⟩ : ∃ n, m.length = n := ⟨_, rfl⟩
  have HN : Hid (m.length = n) := hn
  rw [hn] at c1 hml
  clear hC ho hn
  go_enter Tryz.func20, Tryz.ntmps20
  go_wp2_with fail
  go_loopw [3, 13] (fun lv iv wr => ∃ (k : Nat) (av : Option Addr) (cv : Nat), k ≤ n ∧ iv = .int .i64 (k : Nat) ∧ lv = .slice av k cv ∧ Told wr w.heap.size (.slice av k cv) ((m.take k).map (tellT W m)) ∧ Below w.heap.size w wr) (fun _ iv _ => n - lenW iv)
  case atStart => exact ⟨0, none, 0, Nat.zero_le _, rfl, rfl, Told.nil _ _, Below.refl _ _⟩
  case round =>
    obtain ⟨k, av, cv, hk, rfl, rfl, ht, hb⟩ := hrel
    have HT : Hid (Told _ w.heap.size _ ((m.take k).map (tellT W m))) := ht
    have HB : Hid (Below w.heap.size w _) := hb
    clear ht hb
    rcases Nat.lt_or_eq_of_le hk with hkn | rfl
    · have C0 := HC.out.keep (Ext.refl _ _) HB.out
      have hkm : k < m.length := by rw [HN.out]; exact hkn
      obtain ⟨g, p, rfl, hg3, hgl, cg, hp, hsp⟩ := C0.at k hkm
      have C1 : Hid (Cm _ L cb fb hb (some ⟨g, 0, none⟩) cap ps sh P W (pgF m) m (Kof m)) := C0
      obtain ⟨bb, gg, hat, _⟩ := hsp
      have RT := Sg.Ok.rt HO.out.fit HO.out.p1 (List.getElem_mem hkm)
      have ET : (m.take k).map (tellT W m) ++ [tellT W m m[k]] = (m.take (k + 1)).map (tellT W m) := by rw [List.take_add_one, List.map_append, List.getElem?_eq_getElem hkm]; rfl
      obtain ⟨s, hs⟩ : ∃ s, m[k] = s := ⟨_, rfl⟩
      rw [hs] at hat RT ET
      have HAT : Hid (SpanAt _ p bb gg (s.pg : Int) (s.cl : Int) (s.bts : Int) s.f) := hat
      have HRT : Hid (Rt (s.pg : Int) (s.cl : Int) (s.bts : Int)) := RT
      have HCL : Hid (s.cl ≤ 7) := by have := RT.c7; show _ ≤ _; omega
      obtain ⟨l', hl'⟩ : ∃ l', tellF W m s (lsL s.f (slN (s.cl : Int))) = l' := ⟨_, rfl⟩
      have HL' : Hid (tellF W m s (lsL s.f (slN (s.cl : Int))) = l') := hl'
      have HET : Hid ((m.take k).map (tellT W m) ++ [⟨(s.pg : Int), (s.cl : Int), (s.bts : Int), l'⟩] = (m.take (k + 1)).map (tellT W m)) := by rw [← hl']; exact ET
      have HLN : Hid (((m.take k).map (tellT W m)).length ≤ 100000) := by show _ ≤ _; rw [List.length_map, List.length_take]; omega
      have HKL : Hid (((m.take k).map (tellT W m)).length = k) := by show _ = _; rw [List.length_map, List.length_take]; omega
      have hi0 : (0 : Int) ≤ (k : Int) := by omega
      have hii : (k : Int) < (n : Int) := by omega
      clear C0 hat RT ET hs hl' hp hg3
      go_wp2_with (first
        | (have b4 := b3; at_builtin; refine wpList_told rfl _ _ rfl w.heap.size (by with_reducible exact SZ.out) av k cv ((m.take k).map (tellT W m)) rfl HKL.out (by with_reducible exact TT.out) _ 1 ⟨⟨(s.pg : Int), (s.cl : Int), (s.bts : Int), l'⟩, a', c'⟩ l'.length rfl rfl (by with_reducible exact RR.out) (by with_reducible exact OO.out) HLN.out ?_; intro a4 c4 w4 t4 b4; have T4 : Hid (Told w4 w.heap.size (.slice a4 (k + 1) c4) ((m.take (k + 1)).map (tellT W m))) := (by rw [← HET.out]; exact t4); have B4 : Hid (Below w.heap.size w w4) := BB.out.trans b4; clear t4 b4)
        | (go_at_call 48; refine (ktell_any L cb fb hb (some ⟨g, 0, none⟩) cap ps sh P W (pgF m) m s p bb gg _ C1.out HO.out HAT.out HRT.out HCL.out l' HL'.out).mono ?_; rintro e w3 ⟨a', c', rfl, o3, b3⟩; have T3 : Hid (Told w3 w.heap.size _ ((m.take k).map (tellT W m))) := HT.out.keep b3; have TT : Hid (Told (w3.alloc (.cells #[.int .i64 (s.pg : Int), .int .i64 (s.cl : Int), .int .i64 (s.bts : Int), .slice a' l'.length c'] 48)) w.heap.size _ ((m.take k).map (tellT W m))) := T3.out.keep ((Below.refl _ w3).alloc (Nat.le_refl _) _); have z3 : w.heap.size ≤ w3.heap.size := Nat.le_trans HB.out.size b3.size; have BB : Hid (Below w.heap.size w (w3.alloc (.cells #[.int .i64 (s.pg : Int), .int .i64 (s.cl : Int), .int .i64 (s.bts : Int), .slice a' l'.length c'] 48))) := (HB.out.trans (b3.mono HB.out.size)).alloc z3 _; have SZ : Hid (w.heap.size ≤ (w3.alloc (.cells #[.int .i64 (s.pg : Int), .int .i64 (s.cl : Int), .int .i64 (s.bts : Int), .slice a' l'.length c'] 48)).heap.size) := BB.out.size; have RR : Hid ((w3.alloc (.cells #[.int .i64 (s.pg : Int), .int .i64 (s.cl : Int), .int .i64 (s.bts : Int), .slice a' l'.length c'] 48)).heap[w3.heap.size]? = some (.cells (dcells (s.pg : Int) (s.cl : Int) (s.bts : Int) a' l'.length c') 48 (0, 0))) := Go.heap_alloc_new w3 _; have OO : Hid (OwnsI (w3.alloc (.cells #[.int .i64 (s.pg : Int), .int .i64 (s.cl : Int), .int .i64 (s.bts : Int), .slice a' l'.length c'] 48)) w.heap.size a' l' c') := ((o3.mono HB.out.size).keep ((Below.refl _ w3).alloc (Nat.le_refl _) _)); clear o3 z3))
      go_roundw
      case rel => exact ⟨k + 1, a4, c4, by omega, by congr 1, rfl, T4.out, B4.out⟩
      case measure => simp [lenW]; omega
    · go_wp2
      go_ret
      refine ⟨_, rfl, ?_, HB.out⟩
      have := HT.out
      rw [List.take_of_length_le (Nat.le_of_eq HN.out)] at this
      exact this
end Go.Proofs.YtgmljgogmbaioaaGreatDoor
