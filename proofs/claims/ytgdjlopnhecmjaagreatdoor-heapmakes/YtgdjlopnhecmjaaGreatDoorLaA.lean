/- Memory of layer 13: rows of pointers, of numbers, of spans -/
import Derived.Test.YtgdjlopnhecmjaaGreatDoorGzAE
import Derived.Test.YtgdjlopnhecmjaaGreatDoorGzAF
import Derived.Maps.AppendAt
namespace Go.Proofs.YtgdjlopnhecmjaaGreatDoor
open Go.RowKit
set_option linter.unusedVariables false
set_option maxRecDepth 4000

theorem Only.setRow (g : Nat) (cs : Array Value) (w : World) : Only g w (w.setRow g cs) := ⟨rfl, rfl, rfl, by simp, fun k hk => setRow_other w g k cs hk⟩
/-- Of a world just blocks of a set may be others. -/
structure Tu (S : Nat → Prop) (w w' : World) : Prop where
  os : w'.os = w.os
  tape : w'.tape = w.tape
  output : w'.output = w.output
  size : w.heap.size ≤ w'.heap.size
  block : ∀ (i : Nat) (o : Obj), w.heap[i]? = some o → ¬ S i → w'.heap[i]? = some o
theorem Tu.refl (S : Nat → Prop) (w : World) : Tu S w w := ⟨rfl, rfl, rfl, Nat.le_refl _, fun _ _ h _ => h⟩
theorem Tu.trans {S : Nat → Prop} {a b c : World} (h : Tu S a b) (k : Tu S b c) : Tu S a c :=
  ⟨k.os.trans h.os, k.tape.trans h.tape, k.output.trans h.output, Nat.le_trans h.size k.size, fun i o ho hk => k.block i o (h.block i o ho hk) hk⟩
theorem Tu.mono {S T : Nat → Prop} {w w' : World} (h : Tu S w w') (k : ∀ i, i < w.heap.size → S i → T i) : Tu T w w' :=
  ⟨h.os, h.tape, h.output, h.size, fun i o ho hk => h.block i o ho (fun hs => hk (k i (Array.getElem?_eq_some_iff.1 ho).1 hs))⟩
theorem Tu.ofBelow {S : Nat → Prop} {w w' : World} (h : Below w.heap.size w w') : Tu S w w' :=
  ⟨h.os, h.tape, h.output, h.size, fun i o ho _ => by rw [h.block i (Array.getElem?_eq_some_iff.1 ho).1]; exact ho⟩
theorem Tu.ofOnly {S : Nat → Prop} {g : Nat} {w w' : World} (h : Only g w w') (hg : S g) : Tu S w w' :=
  ⟨h.os, h.tape, h.output, Nat.le_of_eq h.size.symm, fun i o ho hk => by rw [h.block i (fun e => hk (e ▸ hg))]; exact ho⟩
theorem Tu.below {S : Nat → Prop} {B : Nat} {w w' : World} (h : Tu S w w') (hS : ∀ i, S i → B ≤ i) (hB : B ≤ w.heap.size) : Below B w w' :=
  ⟨h.os, h.tape, h.output, h.size, fun i hi => by
    have hlt : i < w.heap.size := by omega
    rw [Array.getElem?_eq_getElem hlt]
    exact h.block i _ (Array.getElem?_eq_getElem hlt) (fun hs => by have := hS i hs; omega)⟩
theorem Tu.cell {S : Nat → Prop} {w w' : World} {g j : Nat} (h : Tu S w w') (hg : ¬ S g) (hs : g < w.heap.size) : w'.cell? ⟨g, j, none⟩ = w.cell? ⟨g, j, none⟩ := World.cell?_of_block (by rw [h.block g _ (Array.getElem?_eq_getElem hs) hg, Array.getElem?_eq_getElem hs])

theorem old_below {w w' : World} {S : Nat → Prop} (hb : Below w.heap.size w w') : ∀ (i : Nat) (o : Obj), w.heap[i]? = some o → S i → w'.heap[i]? = some o := fun i o ho _ => by
  rw [hb.block i (Array.getElem?_eq_some_iff.1 ho).1]; exact ho
theorem old_tu {w w' : World} {S T : Nat → Prop} (ht : Tu T w w') (hd : ∀ i, i < w.heap.size → S i → ¬ T i) : ∀ (i : Nat) (o : Obj), w.heap[i]? = some o → S i → w'.heap[i]? = some o := fun i o ho hs =>
  ht.block i o ho (hd i (Array.getElem?_eq_some_iff.1 ho).1 hs)
theorem old_only {w w' : World} {S : Nat → Prop} {g : Nat} (ho : Only g w w') (hd : ¬ S g) : ∀ (i : Nat) (o : Obj), w.heap[i]? = some o → S i → w'.heap[i]? = some o := fun i o h hs => by
  rw [ho.block i (fun e => hd (e ▸ hs))]; exact h

/-- The block of a slice. -/
def ob (a : Option Addr) : Option Nat := a.map (·.block)
/-- A slice of values in a row of its own, in a block of the set S. -/
def VAt (w : World) (S : Nat → Prop) (t : TypeId) (a : Option Addr) (l : List Value) (cap : Nat) : Prop :=
  (a = none ∧ l = [] ∧ cap = 0) ∨ ∃ g cur, a = some ⟨g, 0, none⟩ ∧ S g ∧ w.heap[g]? = some (.cells cur t (0, 0)) ∧ l.length ≤ cap ∧ cap ≤ maxLen ∧ cur.size = cap ∧ cur.toList.take l.length = l
theorem VAt.nil (w : World) (S : Nat → Prop) (t : TypeId) : VAt w S t none [] 0 := .inl ⟨rfl, rfl, rfl⟩
theorem VAt.same {w w' : World} {S : Nat → Prop} {t : TypeId} {a : Option Addr} {l : List Value} {cap : Nat} (h : VAt w S t a l cap) (he : ∀ (i : Nat) (o : Obj), w.heap[i]? = some o → S i → w'.heap[i]? = some o) : VAt w' S t a l cap := by
  rcases h with h | ⟨g, cur, h1, h2, h3, h4⟩
  · exact .inl h
  · exact .inr ⟨g, cur, h1, h2, he g _ h3 h2, h4⟩
theorem VAt.mono {w : World} {S T : Nat → Prop} {t : TypeId} {a : Option Addr} {l : List Value} {cap : Nat} (h : VAt w S t a l cap) (he : ∀ i, i < w.heap.size → S i → T i) : VAt w T t a l cap := by
  rcases h with h | ⟨g, cur, h1, h2, h3, h4⟩
  · exact .inl h
  · exact .inr ⟨g, cur, h1, he g (Array.getElem?_eq_some_iff.1 h3).1 h2, h3, h4⟩
theorem VAt.keep {w w' : World} {S : Nat → Prop} {t : TypeId} {a : Option Addr} {l : List Value} {cap : Nat} (h : VAt w S t a l cap) (hb : Below w.heap.size w w') : VAt w' S t a l cap := h.same (old_below hb)
theorem VAt.len {w : World} {S : Nat → Prop} {t : TypeId} {a : Option Addr} {l : List Value} {cap : Nat} (h : VAt w S t a l cap) : l.length ≤ cap ∧ cap ≤ 9223372036854775807 := by
  rcases h with ⟨_, rfl, rfl⟩ | ⟨g, cur, h1, h2, h3, h4, h5, _⟩
  · exact ⟨Nat.le_refl _, by omega⟩
  · exact ⟨h4, by unfold maxLen at h5; omega⟩
theorem VAt.at {w : World} {S : Nat → Prop} {t : TypeId} {a : Option Addr} {l : List Value} {cap : Nat} (h : VAt w S t a l cap) (i : Nat) (hi : i < l.length) : ∃ g, a = some ⟨g, 0, none⟩ ∧ S g ∧ g < w.heap.size ∧ w.cell? ⟨g, i, none⟩ = some l[i] ∧ w.frozen? ⟨g, i, none⟩ = false := by
  rcases h with ⟨h1, rfl, h2⟩ | ⟨g, cur, h1, h2, h3, h4, h5, h6, h7⟩
  · simp at hi
  · refine ⟨g, h1, h2, (Array.getElem?_eq_some_iff.1 h3).1, ?_, frozen_of_row _ _ _ _ _ h3⟩
    rw [cell_of_row _ _ _ _ _ _ h3]
    have : l[i]? = cur.toList[i]? := by rw [← h7, List.getElem?_take, if_pos hi]
    rw [List.getElem?_eq_getElem hi] at this
    rw [this]; simp
theorem VAt.owns {w : World} {S : Nat → Prop} {t : TypeId} {a : Option Addr} {l : List Value} {cap : Nat} (h : VAt w S t a l cap) : w.ownsRow 0 t 1 (.slice a l.length cap) l.length l := by
  refine ⟨by simp, ?_⟩
  rcases h with ⟨rfl, rfl, rfl⟩ | ⟨g, cur, rfl, h2, h3, h4, h5, h6, h7⟩
  · exact .inl ⟨rfl, rfl⟩
  · exact .inr ⟨g, cap, cur, rfl, Nat.zero_le _, h3, h4, h5, by omega, by rw [Nat.mul_one]; exact h7⟩
theorem VAt.of {w : World} {S : Nat → Prop} {t : TypeId} {a : Option Addr} {l : List Value} {cap : Nat} (h : w.ownsRow 0 t 1 (.slice a l.length cap) l.length l) (hs : ∀ g, ob a = some g → S g) : VAt w S t a l cap := by
  obtain ⟨_, ⟨h1, h2⟩ | ⟨g, c, cur, h1, _, h3, h4, h5, h6, h7⟩⟩ := h
  · obtain rfl := List.eq_nil_of_length_eq_zero h2
    cases h1; exact .inl ⟨rfl, rfl, rfl⟩
  · cases h1; exact .inr ⟨g, cur, rfl, hs g rfl, h3, h4, h5, by omega, by rw [Nat.mul_one] at h7; exact h7⟩
theorem ownsForm {w : World} {e : TypeId} {v : Value} {n : Nat} {xs : List Value} (h : w.ownsRow 0 e 1 v n xs) : ∃ a cap, v = .slice a n cap := by
  obtain ⟨_, ⟨h4, h5⟩ | ⟨g, c', cur, h4, _⟩⟩ := h
  · exact ⟨_, _, by rw [h4, h5]⟩
  · exact ⟨_, _, h4⟩
theorem ob_own (a : Option Addr) (n c : Nat) : (Value.slice a n c).ownBlock = ob a := by cases a <;> rfl
theorem Tu.grown {S : Nat → Prop} {w w' : World} {row : Option Nat} (h : w.grownBy w' row) (hs : ∀ g, row = some g → S g) : Tu S w w' :=
  ⟨h.os, h.tape, h.output, h.size, fun i o ho hk => by rw [h.block i (Array.getElem?_eq_some_iff.1 ho).1 (fun e => hk (hs i e.symm))]; exact ho⟩


/-- A span's blocks stay. -/
theorem SetAt.blocks {w w' : World} {b g n : Nat} {f : Nat → Bool} (h : SetAt w b g n f) (h1 : w'.heap[b]? = w.heap[b]?) (h2 : w'.heap[g]? = w.heap[g]?) (hs : w.heap.size ≤ w'.heap.size) : SetAt w' b g n f :=
  ⟨(World.cell?_of_block (a := ⟨b, 0, none⟩) h1).trans h.len, (World.cell?_of_block (a := ⟨b, 1, none⟩) h1).trans h.words, fun j hj => (World.cell?_of_block (a := ⟨g, j, none⟩) h2).trans (h.word j hj), fun j => (World.frozen?_of_block (a := ⟨g, j, none⟩) h2).trans (h.thawed j), h.few, h.within, by have := h.hb; omega, by have := h.hg; omega, h.apart⟩
theorem SpanAt.blocks {w w' : World} {sb b g : Nat} {p c s : Int} {f : Nat → Bool} (h : SpanAt w sb b g p c s f) (h0 : w'.heap[sb]? = w.heap[sb]?) (h1 : w'.heap[b]? = w.heap[b]?) (h2 : w'.heap[g]? = w.heap[g]?) (hs : w.heap.size ≤ w'.heap.size) : SpanAt w' sb b g p c s f :=
  ⟨⟨(World.cell?_of_block (a := ⟨sb, 0, none⟩) h0).trans h.box.b0, (World.cell?_of_block (a := ⟨sb, 1, none⟩) h0).trans h.box.b1, (World.cell?_of_block (a := ⟨sb, 2, none⟩) h0).trans h.box.b2⟩, (World.cell?_of_block (a := ⟨sb, 3, none⟩) h0).trans h.at3, h.set.blocks h1 h2 hs, h.a1, h.a2⟩
def ptrV (p : Nat) : Value := .pointer (some ⟨p, 0, none⟩)
theorem ptrs_one (ps : List Nat) : ∀ v ∈ ps.map ptrV, v.oneCell' = true := fun v hv => by obtain ⟨p, _, rfl⟩ := List.mem_map.1 hv; rfl
theorem hlt {w : World} {k : Nat} {o : Obj} (h : w.heap[k]? = some o) : k < w.heap.size := (Array.getElem?_eq_some_iff.1 h).1

/-- Its row. -/
structure Rw extends Td where
  (a : Option Addr) (k : Nat)
def Rw.cs (r : Rw) : List Value := [.int .i64 r.p, .int .i64 r.c, .int .i64 r.s, .slice r.a r.l.length r.k]
/-- Spans that are told: rows of one's own, and each one's numbers. -/
def Told (w : World) (B : Nat) (v : Value) (ts : List Td) : Prop := ∃ rs : List Rw, rs.map Rw.toTd = ts ∧ w.ownsRow B 130 4 v ts.length (rs.flatMap Rw.cs) ∧ ∀ r ∈ rs, OwnsI w B r.a r.l r.k
theorem Told.nil (w : World) (B : Nat) : Told w B (.slice none 0 0) [] := ⟨[], rfl, World.ownsRow_nil _ _ _ _, fun r h => by cases h⟩
theorem ownsRow_keepB {w w' : World} {B : Nat} {e : TypeId} {size : Nat} {v : Value} {n : Nat} {xs : List Value} (h : w.ownsRow B e size v n xs) (hb : Below w.heap.size w w') : w'.ownsRow B e size v n xs := by
  obtain ⟨h0, h1 | ⟨g, c', cur, h1, hg, h2, h3⟩⟩ := h
  · exact ⟨h0, .inl h1⟩
  · exact ⟨h0, .inr ⟨g, c', cur, h1, hg, by rw [hb.block g (Array.getElem?_eq_some_iff.1 h2).1]; exact h2, h3⟩⟩
theorem Told.keep {w w' : World} {B : Nat} {v : Value} {ts : List Td} (h : Told w B v ts) (hb : Below w.heap.size w w') : Told w' B v ts := by
  obtain ⟨rs, h1, h2, h3⟩ := h
  exact ⟨rs, h1, ownsRow_keepB h2 hb, fun r hr => (h3 r hr).keep hb⟩
theorem ownsRow_geB {w : World} {B : Nat} {e : TypeId} {size : Nat} {v : Value} {n : Nat} {xs : List Value} (h : w.ownsRow B e size v n xs) : ∀ j, v.ownBlock = some j → B ≤ j := by
  intro j hj
  obtain ⟨_, ⟨h1, h2⟩ | ⟨g, c', cur, h1, hg, h2, _⟩⟩ := h
  · rw [h1] at hj; simp [Value.ownBlock] at hj
  · rw [h1] at hj
    simp [Value.ownBlock] at hj
    omega
theorem own_grown {w w' : World} {B : Nat} {v : Value} {n : Nat} {xs : List Value} {a : Option Addr} {l : List Int} {cap : Nat} (h : OwnsI w B a l cap) (hr : w.ownsRow B 130 4 v n xs) (hg : w.grownBy w' v.ownBlock) : OwnsI w' B a l cap := by
  obtain ⟨h0, h1 | ⟨g, c', cur, h1, hb, h2, h3⟩⟩ := h
  · exact ⟨h0, .inl h1⟩
  · refine ⟨h0, .inr ⟨g, c', cur, h1, hb, ?_, h3⟩⟩
    rw [hg.block g (Array.getElem?_eq_some_iff.1 h2).1 (fun e => ?_)]
    · exact h2
    · obtain ⟨_, ⟨k1, _⟩ | ⟨g', _, cur', k1, _, k2, _⟩⟩ := hr
      · rw [k1] at e; cases e
      · rw [k1] at e
        have : g = g' := by simpa [Value.ownBlock] using e
        subst this
        rw [h2] at k2
        simp at k2
theorem Told.form {w : World} {B : Nat} {v : Value} {ts : List Td} (h : Told w B v ts) : ∃ a c, v = .slice a ts.length c := by
  obtain ⟨rs, _, ⟨_, ⟨k1, k2⟩ | ⟨g, c, cur, k1, _⟩⟩, _⟩ := h
  · exact ⟨none, 0, by rw [k1, k2]⟩
  · exact ⟨_, _, k1⟩
theorem Tryz.infoSpan : (Tryz.prog.info? 130).map (fun i => (i.zero, i.size, i.bytes)) = some (some (.agg #[.int .i64 0, .int .i64 0, .int .i64 0, .slice none 0 0]), 4, 48) := by kernel_rfl
theorem Tryz.undSpans : Tryz.prog.underlying 52 = some (.slice 130) := by kernel_rfl
theorem wpList_told {ops : Array Oper} {rest : List Oper} {o : Oper} {a : Act} {Q : Exit → Act → World → Prop} {w : World} (hgd : o.guard = none) (s x : Operand)
    (ho : o.op = .call { callee := .builtin .append, args := #[s, x], argTypes := #[52, 52] })
    (B : Nat) (hB : B ≤ w.heap.size) (as0 : Option Addr) (n0 cs : Nat) (ts : List Td) (hs : a.eval s = .slice as0 n0 cs) (hn0 : ts.length = n0) (hown : Told w B (.slice as0 n0 cs) ts)
    (g c : Nat) (r : Rw) (n : Nat) (hn : r.l.length = n) (hx : a.eval x = .slice (some ⟨g, 0, none⟩) 1 c) (hg : w.heap[g]? = some (.cells (dcells r.p r.c r.s r.a n r.k) 130 (0, 0))) (hr : OwnsI w B r.a r.l r.k) (hlen : ts.length ≤ 100000)
    (h : ∀ a' c' w', Told w' B (.slice a' (n0 + 1) c') (ts ++ [r.toTd]) → Below B w w' → wpList Tryz.prog ops Q rest (a.put o.dst (.slice a' (n0 + 1) c')) w') :
    wpList Tryz.prog ops Q (o :: rest) a w := by
  subst hn
  subst hn0
  obtain ⟨i0, hi, hz0, hz1, hz2⟩ := info_parts Tryz.infoSpan
  obtain ⟨rs, e1, e2, e3⟩ := hown
  refine wpList_append_own w hgd s x 52 ho B 130 i0 _ 4 48 Tryz.undSpans hi hz0 hz1 hz2 rfl (by decide) _ _ _ hs e2 ⟨g, 0, none⟩ 1 c r.cs hx rfl ?_ ?_ (by unfold maxLen; omega) (by omega) hB ?_
  · intro j u hj
    rw [show (⟨g, 0, none⟩ : Addr).add j = ⟨g, j, none⟩ by simp [Addr.add]; exact fun h => h.symm, cell_of_row w g j _ _ _ hg]
    show (r.cs.toArray)[j]? = some u
    rw [List.getElem?_toArray]; exact hj
  · intro u hu
    simp [Rw.cs] at hu
    rcases hu with rfl | rfl | rfl | rfl <;> rfl
  · intro v' w' h1 h2 h3
    have T : Told w' B v' (ts ++ [r.toTd]) := by
      refine ⟨rs ++ [r], by rw [List.map_append, e1]; rfl, ?_, fun q hq => ?_⟩
      · rw [List.flatMap_append, List.length_append]
        simpa using h1
      · rcases List.mem_append.1 hq with k | k
        · exact own_grown (e3 q k) e2 h2
        · obtain rfl : q = r := by simpa using k
          exact own_grown hr e2 h2
    obtain ⟨a', c', e⟩ := T.form
    subst e
    rw [List.length_append] at T ⊢
    exact h a' c' w' T ((Below.refl _ w).grown h2 hB (ownsRow_geB e2))
def lenW : Value → Nat
  | .int _ i => i.toNat
  | _ => 0


theorem OwnsI.same {w w' : World} {B : Nat} {a : Option Addr} {l : List Int} {c : Nat} (h : OwnsI w B a l c) (he : ∀ g o, ob a = some g → w.heap[g]? = some o → w'.heap[g]? = some o) : OwnsI w' B a l c := by
  obtain ⟨h0, h1 | ⟨g, c', cur, h1, hb, h3, h4⟩⟩ := h
  · exact ⟨h0, .inl h1⟩
  · exact ⟨h0, .inr ⟨g, c', cur, h1, hb, he g _ (by cases h1; rfl) h3, h4⟩⟩


/-- Spans that can be read. -/
def RdT (w : World) (a : Option Addr) (ts : List Td) : Prop :=
  ∀ i (hi : i < ts.length), ∃ g off la lk, a = some ⟨g, off, none⟩ ∧ w.cell? ⟨g, off + i * 4, none⟩ = some (.int .i64 ts[i].p) ∧ w.cell? ⟨g, off + i * 4 + 1, none⟩ = some (.int .i64 ts[i].c) ∧ w.cell? ⟨g, off + i * 4 + 2, none⟩ = some (.int .i64 ts[i].s) ∧ w.cell? ⟨g, off + i * 4 + 3, none⟩ = some (.slice la ts[i].l.length lk) ∧ IsI w la ts[i].l ∧ ts[i].l.length ≤ maxLen
theorem RdT.keep {w w' : World} {a : Option Addr} {ts : List Td} (h : RdT w a ts) (hb : Below w.heap.size w w') : RdT w' a ts := fun i hi => by
  obtain ⟨g, off, la, lk, e, c0, c1, c2, c3, hI, hl⟩ := h i hi
  exact ⟨g, off, la, lk, e, bcell hb c0, bcell hb c1, bcell hb c2, bcell hb c3, hI.keep hb, hl⟩
set_option maxRecDepth 20000 in
set_option maxHeartbeats 1000000 in
theorem rall_rd (a a' : Option Addr) (n c n' c' : Nat) (ts : List Td) (w : World) (h : RdT w a ts) (h' : RdT w a' ts) (hn : ts.length = n) (hn' : ts.length = n') (hl : ts.length ≤ 9000000000000000000) :
    Calls Tryz.prog 106 #[.slice a n c, .slice a' n' c'] w fun e w' => e = .returned (.bool true) ∧ Below w.heap.size w w' := by
  subst hn'
  subst hn
  have H : Hid (RdT w a ts) := h
  have H' : Hid (RdT w a' ts) := h'
  clear h h'
  go_enter Tryz.func106, Tryz.ntmps106
  go_wp2
  go_loopw [13] (fun jv wy => ∃ j : Nat, j ≤ ts.length ∧ jv = .int .i64 (j : Nat) ∧ Below w.heap.size w wy) (fun jv _ => ts.length - lenW jv)
  case atStart => exact ⟨0, Nat.zero_le _, rfl, Below.refl _ _⟩
  case round =>
    obtain ⟨j, hj, rfl, hB⟩ := hrel
    rename World => wy
    have HB : Hid (Below w.heap.size w wy) := hB
    by_cases hjl : j < ts.length
    · obtain ⟨g, off, la, lk, rfl, q0, q1, q2, q3, i1, l1⟩ := (H.out.keep hB) j hjl
      obtain ⟨g', off', la', lk', rfl, r0, r1, r2, r3, i2, l2⟩ := (H'.out.keep hB) j hjl
      obtain ⟨x, hx⟩ : ∃ x, ts[j] = x := ⟨_, rfl⟩
      rw [hx] at q0 q1 q2 q3 r0 r1 r2 r3 i1 i2 l1
      have I1 : Hid (IsI wy la x.l) := i1
      have I2 : Hid (IsI wy la' x.l) := i2
      obtain ⟨xl, hxl⟩ : ∃ xl, x.l.length = xl := ⟨_, rfl⟩
      have EX : Hid (x.l.length = xl) := hxl
      have LX : Hid (x.l.length ≤ maxLen) := l1
      rw [hxl] at q3 r3
      have e1 : (j : Int) < (ts.length : Int) := by omega
      have e0 : (0 : Int) ≤ (j : Nat) := by omega
      clear hB hx i1 i2 l1 l2 hxl
      go_wp2_with fail
      go_region_held3 (fun w' => w'.cell? ⟨g, off + j * 4, none⟩ = some (.int .i64 x.p) ∧ w'.cell? ⟨g, off + j * 4 + 1, none⟩ = some (.int .i64 x.c) ∧ w'.cell? ⟨g, off + j * 4 + 2, none⟩ = some (.int .i64 x.s) ∧ w'.cell? ⟨g, off + j * 4 + 3, none⟩ = some (.slice la xl lk) ∧ w'.cell? ⟨g', off' + j * 4, none⟩ = some (.int .i64 x.p) ∧ w'.cell? ⟨g', off' + j * 4 + 1, none⟩ = some (.int .i64 x.c) ∧ w'.cell? ⟨g', off' + j * 4 + 2, none⟩ = some (.int .i64 x.s) ∧ w'.cell? ⟨g', off' + j * 4 + 3, none⟩ = some (.slice la' xl lk')) (first | exact ⟨bcell B5.out q0, bcell B5.out q1, bcell B5.out q2, bcell B5.out q3, bcell B5.out r0, bcell B5.out r1, bcell B5.out r2, bcell B5.out r3⟩ | exact ⟨q0, q1, q2, q3, r0, r1, r2, r3⟩)
        ((go_at_call 166; refine (same_true x.p x.c x.s la la' xl xl lk lk' x.l _ (I1.out.keep (Below.refl _ _).drew) (I2.out.keep (Below.refl _ _).drew) EX.out.symm EX.out.symm LX.out).mono ?_; rintro e w5 ⟨rfl, b5⟩; have B5 : Hid (Below wy.heap.size wy w5) := Below.ofDrew b5; clear b5))
      go_wp2
      go_roundw
      case rel => exact ⟨j + 1, by omega, by congr 1, HB.out.trans (B5.out.mono HB.out.size)⟩
      case measure => simp [lenW]; omega
    · obtain rfl : j = ts.length := by omega
      clear hB
      go_wp2
      go_ret
      exact ⟨rfl, HB.out⟩
end Go.Proofs.YtgdjlopnhecmjaaGreatDoor
