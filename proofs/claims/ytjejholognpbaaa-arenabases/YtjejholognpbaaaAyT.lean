/- What the walk of ArenaBases stands on: two of the code's arenas, side by side. -/
import Derived.Test.YtjejholognpbaaaAyS
namespace Go.Proofs.Ytjejholognpbaaa
open Go.RowKit
set_option linter.unusedVariables false

theorem ClAt.tg {w w' : World} {b o g : Nat} {q : Cl} (h : ClAt w b o q) (ht : Tg g w w') (hn : b ≠ g) : ClAt w' b o q :=
  ⟨ht.cell h.1 hn, ht.cell h.2.1 hn, ht.cell h.2.2.1 hn, ht.cell h.2.2.2.1 hn, ht.cell h.2.2.2.2.1 hn, ht.cell h.2.2.2.2.2.1 hn, ht.cell h.2.2.2.2.2.2 hn⟩
theorem ClAt.of_alloc (w : World) (q : Cl) : ClAt (w.alloc (.cells #[.int .i64 q.kd, .int .i64 q.x, .int .i64 q.y, .int .i64 q.k, .int .u64 q.v, .slice q.a q.b.length q.c, .bool q.nr] 39)) w.heap.size 0 q := by
  have h := Go.heap_alloc_new w (.cells #[.int .i64 q.kd, .int .i64 q.x, .int .i64 q.y, .int .i64 q.k, .int .u64 q.v, .slice q.a q.b.length q.c, .bool q.nr] 39)
  exact ⟨cell_of_row _ _ 0 _ _ _ h, cell_of_row _ _ 1 _ _ _ h, cell_of_row _ _ 2 _ _ _ h, cell_of_row _ _ 3 _ _ _ h, cell_of_row _ _ 4 _ _ _ h, cell_of_row _ _ 5 _ _ _ h, cell_of_row _ _ 6 _ _ _ h⟩

/-- Two arenas with the same bytes. -/
structure Tw (w0 wr : World) (b g mb mg : Nat) (base base2 : Int) (l : List Int) : Prop where
  isA : IsA wr b g base l
  isM : IsA wr mb mg base2 l
  low : Below w0.heap.size w0 wr
  ga : w0.heap.size ≤ g
  gm : w0.heap.size ≤ mg
  n1 : mb ≠ g
  n2 : mg ≠ g
  n3 : b ≠ mg
theorem Tw.keep {w0 wr w' : World} {b g mb mg : Nat} {base base2 : Int} {l : List Int} (h : Tw w0 wr b g mb mg base base2 l) (hb : Below wr.heap.size wr w') : Tw w0 w' b g mb mg base base2 l :=
  ⟨h.isA.keep hb, h.isM.keep hb, h.low.trans (hb.mono h.low.size), h.ga, h.gm, h.n1, h.n2, h.n3⟩

/-- Behind the first do, called in a world that came of wr; c: the call's block. -/
structure TM0 (w wr w5 : World) (b g mb mg c : Nat) (q : Cl) (ra : Option Addr) (base base2 : Int) (l L R : List Int) : Prop where
  isA : IsA w5 b g base L
  isM : IsA w5 mb mg base2 l
  low : Below w.heap.size w w5
  got : Got wr.heap.size w5 ra R
  sz : wr.heap.size ≤ w5.heap.size
  cl : ClAt w5 c 0 q
structure TM (w wr wx : World) (b g mb mg c p : Nat) (q : Cl) (ra : Option Addr) (base base2 : Int) (l L R : List Int) (x y z : Int) : Prop extends TM0 w wr wx b g mb mg c q ra base base2 l L R where
  arr : Arr wx p x y z
  gp : wr.heap.size ≤ p
theorem Tw.m0 {w wr wz w5 : World} {b g mb mg c : Nat} {q : Cl} {ra : Option Addr} {base base2 : Int} {l L R : List Int} (h : Tw w wr b g mb mg base base2 l) (hb : Below wr.heap.size wr wz) (i5 : IsA w5 b g base L) (t5 : Tg g wz w5) (g5 : Got wz.heap.size w5 ra R) (hc : ClAt wr c 0 q) (hcg : c ≠ g) : TM0 w wr w5 b g mb mg c q ra base base2 l L R :=
  ⟨i5, (h.isM.keep hb).tg t5 h.n1 h.n2, (h.low.trans (hb.mono h.low.size)).trans (t5.below h.ga (Nat.le_trans h.low.size hb.size)), g5.mono hb.size, Nat.le_trans hb.size t5.size, (hc.keep hb).tg t5 hcg⟩
theorem TM0.keep {w wr w5 wx : World} {b g mb mg c : Nat} {q : Cl} {ra : Option Addr} {base base2 : Int} {l L R : List Int} (h : TM0 w wr w5 b g mb mg c q ra base base2 l L R) (hb : Below w5.heap.size w5 wx) : TM0 w wr wx b g mb mg c q ra base base2 l L R :=
  ⟨h.isA.keep hb, h.isM.keep hb, h.low.trans (hb.mono h.low.size), h.got.keep hb, Nat.le_trans h.sz hb.size, h.cl.keep hb⟩
theorem TM0.after {w wr w5 wx : World} {b g mb mg c : Nat} {q : Cl} {ra : Option Addr} {base base2 : Int} {l L R : List Int} {x y z : Int} (h : TM0 w wr w5 b g mb mg c q ra base base2 l L R) (hb : Below w5.heap.size w5 wx) (ha : Arr wx w5.heap.size x y z) : TM w wr wx b g mb mg c w5.heap.size q ra base base2 l L R x y z :=
  ⟨h.keep hb, ha, h.sz⟩
theorem Got.only {B p : Nat} {w w' : World} {a : Option Addr} {l : List Int} {x y z : Int} (h : Got B w a l) (h0 : Arr w p x y z) (ho : Only p w w') : Got B w' a l := by
  rcases h with e | ⟨g', rfl, hB, hr⟩
  · exact .inl e
  · refine .inr ⟨g', rfl, hB, (Tg.ofOnly ho).row hr (fun e => ?_)⟩
    subst e
    have h0' : w.heap[g']? = _ := h0
    have hr' : w.heap[g']? = _ := hr
    rw [h0'] at hr'
    simp at hr'
theorem TM0.ahead {w wr w5 wx : World} {b g mb mg c p : Nat} {q : Cl} {ra : Option Addr} {base base2 : Int} {l L R : List Int} {x y z x0 y0 z0 : Int} (h : TM0 w wr w5 b g mb mg c q ra base base2 l L R) (hP : Tw w wr b g mb mg base base2 l) (h0 : Arr w5 p x0 y0 z0) (ho : Only p w5 wx) (ha : Arr wx p x y z) (hp : wr.heap.size ≤ p) (hc : c < wr.heap.size) : TM w wr wx b g mb mg c p q ra base base2 l L R x y z := by
  have t := Tg.ofOnly ho
  have hb := hP.isA.lt
  have hg := hP.isA.row.lt
  have hmb := hP.isM.lt
  have hmg := hP.isM.row.lt
  exact ⟨⟨h.isA.tg t (by omega) (by omega), h.isM.tg t (by omega) (by omega), h.low.trans (t.below (Nat.le_trans hP.low.size hp) h.low.size), h.got.only h0 ho, Nat.le_trans h.sz t.size, h.cl.tg t (by omega)⟩, ha, hp⟩

/-- Behind the second do, called in a world that came of wc. -/
structure TF0 (w wc w6 : World) (b g mb mg p : Nat) (ra rb : Option Addr) (base base2 : Int) (L R : List Int) (x y z : Int) : Prop where
  tw : Tw w w6 b g mb mg base base2 L
  arr : Arr w6 p x y z
  gp : p < wc.heap.size
  ga : IsB w6 ra R
  gb : Got wc.heap.size w6 rb R
  na : R = [] ∨ ∀ ad, ra = some ad → ad.block < wc.heap.size
  sz : wc.heap.size ≤ w6.heap.size
structure TF (w wx : World) (b g mb mg p p2 : Nat) (ra rb : Option Addr) (base base2 : Int) (L R : List Int) (x y z : Int) : Prop where
  tw : Tw w wx b g mb mg base base2 L
  arr : Arr wx p x y z
  arr2 : Arr wx p2 x y z
  ga : IsB wx ra R
  gb : IsB wx rb R
theorem TM.f0 {w wr wc wz w6 : World} {b g mb mg c p : Nat} {q : Cl} {ra rb : Option Addr} {base base2 : Int} {l L R : List Int} {x y z : Int} (h : TM w wr wc b g mb mg c p q ra base base2 l L R x y z) (hP : Tw w wr b g mb mg base base2 l) (hR : AllB R) (hb : Below wc.heap.size wc wz) (i6 : IsA w6 mb mg base2 L) (t6 : Tg mg wz w6) (g6 : Got wz.heap.size w6 rb R) : TF0 w wc w6 b g mb mg p ra rb base base2 L R x y z := by
  have hmg := hP.isM.row.lt
  have hgp := h.gp
  have hsz := h.sz
  have hla := h.arr.lt
  have hz := hb.size
  refine ⟨⟨(h.isA.keep hb).tg t6 hP.n3 (fun e => hP.n2 e.symm), i6, (h.low.trans (hb.mono h.low.size)).trans (t6.below hP.gm (Nat.le_trans h.low.size hz)), hP.ga, hP.gm, hP.n1, hP.n2, hP.n3⟩, ?_, hla, ?_, g6.mono hz, ?_, Nat.le_trans hz t6.size⟩
  · have a1 : Arr wz p x y z := h.arr.tg (g' := wc.heap.size) (Tg.ofBelow hb) (by omega)
    exact a1.tg t6 (by omega)
  · exact ((h.got.keep hb).tg t6 hmg).isB hR
  · rcases h.got with e | ⟨g', rfl, hB, hr⟩
    · exact .inl e
    · exact .inr (fun ad hd => by cases hd; exact hr.lt)
theorem TF0.after {w wc w6 wx : World} {b g mb mg p : Nat} {ra rb : Option Addr} {base base2 : Int} {L R : List Int} {x y z : Int} (h : TF0 w wc w6 b g mb mg p ra rb base base2 L R x y z) (hR : AllB R) (hb : Below w6.heap.size w6 wx) (ha : Arr wx w6.heap.size x y z) : TF w wx b g mb mg p w6.heap.size ra rb base base2 L R x y z :=
  ⟨h.tw.keep hb, h.arr.tg (g' := w6.heap.size) (Tg.ofBelow hb) (by have := h.arr.lt; omega), ha, h.ga.keep hb, (h.gb.keep hb).isB hR⟩
theorem TF0.ahead {w wc w6 wx : World} {b g mb mg p p2 : Nat} {ra rb : Option Addr} {base base2 : Int} {L R : List Int} {x y z x0 y0 z0 : Int} (h : TF0 w wc w6 b g mb mg p ra rb base base2 L R x y z) (hR : AllB R) (hlow : w.heap.size ≤ wc.heap.size) (hl : b < wc.heap.size ∧ g < wc.heap.size ∧ mb < wc.heap.size ∧ mg < wc.heap.size) (h0 : Arr w6 p2 x0 y0 z0) (ho : Only p2 w6 wx) (ha : Arr wx p2 x y z) (hp : wc.heap.size ≤ p2) : TF w wx b g mb mg p p2 ra rb base base2 L R x y z := by
  have t := Tg.ofOnly ho
  have hgp := h.gp
  obtain ⟨l1, l2, l3, l4⟩ := hl
  refine ⟨⟨h.tw.isA.tg t (by omega) (by omega), h.tw.isM.tg t (by omega) (by omega), h.tw.low.trans (t.below (by omega) h.tw.low.size), h.tw.ga, h.tw.gm, h.tw.n1, h.tw.n2, h.tw.n3⟩, h.arr.tg t (by omega), ha, ?_, (h.gb.only h0 ho).isB hR⟩
  rcases h.na with e | e
  · rw [e]; exact IsB.nil _ _
  · exact t.isB h.ga (fun ad hd => by have := e ad hd; omega)
end Go.Proofs.Ytjejholognpbaaa
