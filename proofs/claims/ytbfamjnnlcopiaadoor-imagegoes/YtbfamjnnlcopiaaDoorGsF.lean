/- Rows of moves; what tell, within and Where do. -/
import Derived.Test.YtbfamjnnlcopiaaDoorLaA
namespace Go.Proofs.YtbfamjnnlcopiaaDoor
open Go.RowKit
set_option linter.unusedVariables false
set_option maxRecDepth 4000

/-- Moves as cells. -/
def cellsV : List Mv → List Value
  | [] => []
  | v :: l => .int .i64 v.fr :: .int .i64 v.to :: .int .i64 v.ln :: cellsV l
theorem cellsV_len : ∀ l, (cellsV l).length = l.length * 3
  | [] => rfl
  | v :: l => by simp [cellsV, cellsV_len l]; omega
theorem cellsV_append : ∀ (a b : List Mv), cellsV (a ++ b) = cellsV a ++ cellsV b
  | [], _ => rfl
  | v :: a, b => by simp [cellsV, cellsV_append a b]
theorem cellsV_one : ∀ (l : List Mv), ∀ v ∈ cellsV l, v.oneCell' = true
  | r :: l, v, hv => by
    simp only [cellsV, List.mem_cons] at hv
    rcases hv with rfl | rfl | rfl | hv
    · rfl
    · rfl
    · rfl
    · exact cellsV_one l v hv
theorem cellsV_at : ∀ (l : List Mv) (i : Nat) (h : i < l.length), (cellsV l)[i * 3]? = some (.int .i64 l[i].fr) ∧ (cellsV l)[i * 3 + 1]? = some (.int .i64 l[i].to) ∧ (cellsV l)[i * 3 + 2]? = some (.int .i64 l[i].ln)
  | r :: l, 0, _ => by simp [cellsV]
  | r :: l, i + 1, h => by
    have := cellsV_at l i (by simpa using h)
    rw [show (i + 1) * 3 = i * 3 + 3 from by omega, show i * 3 + 3 + 1 = i * 3 + 1 + 3 from by omega, show i * 3 + 3 + 2 = i * 3 + 2 + 3 from by omega]
    simpa [cellsV] using this
theorem wpList_run {ops : Array Oper} {rest : List Oper} {o : Oper} {a : Act} {Q : Exit → Act → World → Prop} {w : World} (hgd : o.guard = none) (t : TypeId) (hty : o.type = t) (s x : Operand)
    (ho : o.op = .call { callee := .builtin .append, args := #[s, x], argTypes := #[t, t] }) (v1 v2 v' : Value) (w' : World) (hs : a.eval s = v1) (hx : a.eval x = v2)
    (hrun : (Builtin.append_ #[t, t] t #[v1, v2]).run Tryd.prog w = .ok v' w') (h : wpList Tryd.prog ops Q rest (a.put o.dst v') w') : wpList Tryd.prog ops Q (o :: rest) a w := by
  refine wpList_plain hgd fun K' hK' => ?_
  unfold Oper.wp
  simp [execOp, ho, hty, resolve, invoke, builtin, hs, hx, hrun, Result.andThen]
  exact hK' _ _ h
end Go.Proofs.YtbfamjnnlcopiaaDoor

/- Spans that stand, in memory. -/
namespace Go.Proofs.YtbfamjnnlcopiaaDoor
open Go.RowKit
set_option linter.unusedVariables false
set_option maxRecDepth 4000

/-- The spans of the code's plan: pointers ps, each span's blocks labelled by its place; F: what is taken. -/
structure Sps (w : World) (L : Nat → Nat) (ps : List Nat) (m : List Sn) (F : Nat → Nat → Bool) : Prop where
  tab : Tabs w
  l0 : L 0 = 0
  l1 : L 1 = 0
  len : ps.length = m.length
  sp : ∀ i (hi : i < m.length) (hp : i < ps.length), ∃ b g, SpanAt w ps[i] b g ((sn m i).pg : Int) ((sn m i).cl : Int) ((sn m i).bts : Int) (F i) ∧ L ps[i] = i + 1 ∧ L b = i + 1 ∧ L g = i + 1
theorem Sps.same {w w' : World} {L : Nat → Nat} {ps : List Nat} {m : List Sn} {F : Nat → Nat → Bool} (h : Sps w L ps m F) (hs : w.heap.size ≤ w'.heap.size) (he : ∀ (k : Nat) (o : Obj), w.heap[k]? = some o → (L k ≠ 0 ∨ k = 0 ∨ k = 1) → w'.heap[k]? = some o) : Sps w' L ps m F := by
  have eq : ∀ k, k < w.heap.size → (L k ≠ 0 ∨ k = 0 ∨ k = 1) → w'.heap[k]? = w.heap[k]? := fun k hk hL => by rw [Array.getElem?_eq_getElem hk]; exact he k _ (Array.getElem?_eq_getElem hk) hL
  refine ⟨⟨⟨by have := h.tab.1.1; omega, fun j hj => ?_⟩, ⟨by have := h.tab.2.1; omega, fun j hj => ?_⟩⟩, h.l0, h.l1, h.len, fun i hi hp => ?_⟩
  · rw [World.cell?_of_block (a := ⟨0, j, none⟩) (eq 0 h.tab.1.1 (.inr (.inl rfl)))]; exact h.tab.1.2 j hj
  · rw [World.cell?_of_block (a := ⟨1, j, none⟩) (eq 1 h.tab.2.1 (.inr (.inr rfl)))]; exact h.tab.2.2 j hj
  · obtain ⟨b, g, h0, h1, h2, h3⟩ := h.sp i hi hp
    exact ⟨b, g, h0.blocks (eq _ h0.lt (.inl (by omega))) (eq _ h0.set.hb (.inl (by omega))) (eq _ h0.set.hg (.inl (by omega))) hs, h1, h2, h3⟩
theorem Sps.keep {w w' : World} {L : Nat → Nat} {ps : List Nat} {m : List Sn} {F : Nat → Nat → Bool} (h : Sps w L ps m F) (hb : Below w.heap.size w w') : Sps w' L ps m F := h.same hb.size (fun k o ho _ => by rw [hb.block k (hlt ho)]; exact ho)
theorem Sps.tu {S : Nat → Prop} {w w' : World} {L : Nat → Nat} {ps : List Nat} {m : List Sn} {F : Nat → Nat → Bool} (h : Sps w L ps m F) (ht : Tu S w w') (hS : ∀ k, S k → L k = 0 ∧ 2 ≤ k) : Sps w' L ps m F := h.same ht.size (fun k o ho hk => ht.block k o ho (fun hs => by have := hS k hs; omega))
/-- A span's slots turned. -/
theorem Sps.turned {w w' : World} {L : Nat → Nat} {ps : List Nat} {m : List Sn} {F : Nat → Nat → Bool} (h : Sps w L ps m F) (i : Nat) (hi : i < m.length) (hp : i < ps.length) (b g : Nat) (f' : Nat → Bool) (hb : L b = i + 1) (hg : L g = i + 1) (hpi : L ps[i] = i + 1) (hs : SpanAt w' ps[i] b g ((sn m i).pg : Int) ((sn m i).cl : Int) ((sn m i).bts : Int) f') (on : Only g w w') : Sps w' L ps m (updF F i f') := by
  have hz := h.l0
  have hz1 := h.l1
  refine ⟨⟨⟨by rw [on.size]; exact h.tab.1.1, fun j hj => ?_⟩, ⟨by rw [on.size]; exact h.tab.2.1, fun j hj => ?_⟩⟩, h.l0, h.l1, h.len, fun j hj hpj => ?_⟩
  · rw [on.cell (p := ⟨0, j, none⟩) (fun e => by have e : 0 = g := e; rw [← e] at hg; omega)]; exact h.tab.1.2 j hj
  · rw [on.cell (p := ⟨1, j, none⟩) (fun e => by have e : 1 = g := e; rw [← e] at hg; omega)]; exact h.tab.2.2 j hj
  · unfold updF
    by_cases e : j = i
    · subst e; rw [if_pos rfl]; exact ⟨b, g, hs, hpi, hb, hg⟩
    · rw [if_neg e]
      obtain ⟨b', g', k0, k1, k2, k3⟩ := h.sp j hj hpj
      exact ⟨b', g', k0.beside on (fun e' => by rw [e'] at k1; omega) (fun e' => by rw [e'] at k2; omega) (fun e' => by rw [e'] at k3; omega), k1, k2, k3⟩
/-- The k-th of spans that came in. -/
def tdD (ts : List Td) (k : Nat) : Td := ts.getD k ⟨0, 0, 0, []⟩
def snT (t : Td) : Sn := ⟨t.p.toNat, t.c.toNat, t.s.toNat⟩
def FT (ts : List Td) : Nat → Nat → Bool := fun i => fOf (tdD ts i).l
def endT (ts : List Td) : Nat → Int
  | 0 => 0
  | k + 1 => (tdD ts k).p + (pgsN (tdD ts k).c (tdD ts k).s : Int)
/-- May the k-th stand behind the one ahead of it? -/
def okT (P : Int) (ts : List Td) (k : Nat) : Bool := decide (newE (tdD ts k).p (tdD ts k).c (tdD ts k).s = 0 ∧ okL (slN (tdD ts k).c) (-1) (tdD ts k).l = true ∧ endT ts k ≤ (tdD ts k).p ∧ (tdD ts k).p + (pgsN (tdD ts k).c (tdD ts k).s : Int) ≤ P)
def stdU (P : Int) (ts : List Td) : Nat → Bool
  | 0 => true
  | k + 1 => stdU P ts k && okT P ts k
def stdB (P : Int) (ts : List Td) : Bool := decide (1 ≤ P ∧ P ≤ 4096) && stdU P ts ts.length
theorem stdU_false {P : Int} {ts : List Td} {k : Nat} (h : okT P ts k = false) : ∀ n, k < n → stdU P ts n = false
  | n + 1, hk => by
    rw [stdU]
    rcases Nat.lt_or_eq_of_le (Nat.le_of_lt_succ hk) with e | rfl
    · rw [stdU_false h n e, Bool.false_and]
    · rw [h, Bool.and_false]
theorem tdD_at {ts : List Td} {k : Nat} (h : k < ts.length) : tdD ts k = ts[k] := getD_eq _ h
theorem sn_map {ts : List Td} {k : Nat} (h : k < ts.length) : sn (ts.map snT) k = snT (tdD ts k) := by
  unfold sn
  rw [getD_eq _ (by simpa using h), List.getElem_map, tdD_at h]
theorem sn_take {m : List Sn} {i k : Nat} (h : i < k) : sn (m.take k) i = sn m i := by
  unfold sn
  simp only [List.getD_eq_getElem?_getD, List.getElem?_take, if_pos h]
/-- One span more. -/
theorem Sps.more {wr w' : World} {L : Nat → Nat} {ps : List Nat} {m : List Sn} {F : Nat → Nat → Bool} {sb b g : Nat} {p c s : Int} {f : Nat → Bool} (h : Sps wr L ps m F) (t : Sn) (hp : (t.pg : Int) = p) (hc : (t.cl : Int) = c) (hs : (t.bts : Int) = s) (hF : F m.length = f) (hsp : Spn wr w' sb b g p c s f) :
    Sps w' (fun k => if k = sb ∨ k = b ∨ k = g then m.length + 1 else if k < wr.heap.size then L k else 0) (ps ++ [sb]) (m ++ [t]) F := by
  have gs := hsp.gs
  have gb := hsp.gb
  have gg := hsp.gg
  have low := hsp.low
  have t0 := h.tab.1.1
  have t1 := h.tab.2.1
  have old : ∀ k, k < wr.heap.size → (if k = sb ∨ k = b ∨ k = g then m.length + 1 else if k < wr.heap.size then L k else 0) = L k := fun k hk => by rw [if_neg (by omega), if_pos hk]
  refine ⟨h.tab.keep low, by rw [old 0 t0]; exact h.l0, by rw [old 1 t1]; exact h.l1, by simp [h.len], fun i hi hpi => ?_⟩
  rw [List.length_append, List.length_singleton] at hi
  by_cases e : i = m.length
  · subst e
    have e1 : (ps ++ [sb])[m.length] = sb := by rw [List.getElem_append_right (by rw [h.len]; exact Nat.le_refl _)]; simp [h.len]
    have e2 : sn (m ++ [t]) m.length = t := by unfold sn; simp
    rw [e1, e2, hp, hc, hs, hF]
    exact ⟨b, g, hsp.at', if_pos (.inl rfl), if_pos (.inr (.inl rfl)), if_pos (.inr (.inr rfl))⟩
  · have hi' : i < m.length := by omega
    have hp' : i < ps.length := by rw [h.len]; exact hi'
    have e1 : (ps ++ [sb])[i] = ps[i] := List.getElem_append_left hp'
    have e2 : sn (m ++ [t]) i = sn m i := by unfold sn; simp only [List.getD_eq_getElem?_getD, List.getElem?_append_left hi']
    rw [e1, e2]
    obtain ⟨b', g', k0, k1, k2, k3⟩ := h.sp i hi' hp'
    exact ⟨b', g', k0.keep low, by rw [old _ k0.lt]; exact k1, by rw [old _ k0.set.hb]; exact k2, by rw [old _ k0.set.hg]; exact k3⟩
end Go.Proofs.YtbfamjnnlcopiaaDoor

/- Which spans may stand: stand. -/
namespace Go.Proofs.YtbfamjnnlcopiaaDoor
open Go.RowKit
set_option linter.unusedVariables false
set_option maxRecDepth 4000

theorem Tryd.infoSp : (Tryd.prog.info? 70).map (fun i => (i.zero, i.size, i.bytes)) = some (some (.pointer none), 1, 8) := by kernel_rfl
/-- Pointers in a row of one's own. -/
def Ps (w : World) (B : Nat) (a : Option Addr) (ps : List Nat) (c : Nat) : Prop := w.ownsRow B 70 1 (.slice a ps.length c) ps.length (ps.map ptrV)
theorem Ps.nil (w : World) (B : Nat) : Ps w B none [] 0 := World.ownsRow_nil _ _ _ _
theorem Ps.same {w w' : World} {B : Nat} {a : Option Addr} {l : List Nat} {c : Nat} (h : Ps w B a l c) (he : ∀ g o, ob a = some g → w.heap[g]? = some o → w'.heap[g]? = some o) : Ps w' B a l c := by
  obtain ⟨h0, h1 | ⟨g, c', cur, h1, hg, h2, h3⟩⟩ := h
  · exact ⟨h0, .inl h1⟩
  · exact ⟨h0, .inr ⟨g, c', cur, h1, hg, he g _ (by cases h1; rfl) h2, h3⟩⟩
theorem Ps.keep {w w' : World} {B : Nat} {a : Option Addr} {l : List Nat} {c : Nat} (h : Ps w B a l c) (hb : Below w.heap.size w w') : Ps w' B a l c := h.same (fun g o _ ho => by rw [hb.block g (hlt ho)]; exact ho)
theorem Ps.ge {w : World} {B : Nat} {a : Option Addr} {l : List Nat} {c : Nat} (h : Ps w B a l c) : ∀ g, ob a = some g → B ≤ g ∧ g < w.heap.size ∧ ∃ cur, w.heap[g]? = some (.cells cur 70 (0, 0)) := by
  intro g hg
  obtain ⟨_, ⟨h1, h3⟩ | ⟨g', c', cur, h1, hb, h2, _⟩⟩ := h
  · injection h1 with e1; subst e1; cases hg
  · cases h1; cases hg; exact ⟨hb, hlt h2, cur, h2⟩
theorem Ps.at {w : World} {B : Nat} {a : Option Addr} {l : List Nat} {c : Nat} (h : Ps w B a l c) (i : Nat) (hi : i < l.length) : ∃ g, a = some ⟨g, 0, none⟩ ∧ w.cell? ⟨g, i, none⟩ = some (.pointer (some ⟨l[i], 0, none⟩)) := by
  have h' := h
  obtain ⟨_, ⟨h1, h2⟩ | ⟨q, c', cur, h1, hg1, h2, _⟩⟩ := h
  · omega
  · cases h1
    refine ⟨q, rfl, ?_⟩
    rw [World.ownsRow.cellAt h' i (by omega)]
    simp [hi, ptrV]
/-- Spans that stand, and the row of their pointers. -/
structure Sta (w w' : World) (L : Nat → Nat) (a : Option Addr) (ps : List Nat) (n c : Nat) (m : List Sn) (F : Nat → Nat → Bool) : Prop where
  sp : Sps w' L ps m F
  row : Ps w' w.heap.size a ps c
  plen : ps.length = n
  rz : ∀ g, ob a = some g → L g = 0
  low : ∀ k, k < w.heap.size → L k = 0
  high : ∀ k, w'.heap.size ≤ k → L k = 0
  bel : Below w.heap.size w w'
  two : 2 ≤ w.heap.size
theorem Sta.append {w wr D w' : World} {L : Nat → Nat} {a a' : Option Addr} {ps : List Nat} {n c c' : Nat} {m : List Sn} {F : Nat → Nat → Bool} {sb b g : Nat} {p cc s : Int} {f : Nat → Bool} (h : Sta w wr L a ps n c m F) (w2 : World) (t : Sn) (hp : (t.pg : Int) = p) (hc : (t.cl : Int) = cc) (hs : (t.bts : Int) = s) (hF : F m.length = f) (hsp : Spn wr w2 sb b g p cc s f) (hD : Below w2.heap.size w2 D) (u : Tu (fun k => ob a = some k) D w') (o : Ps w' w.heap.size a' (ps ++ [sb]) c') (ha : ob a' = ob a ∨ ob a' = some D.heap.size) :
    Sta w w' (fun k => if k = sb ∨ k = b ∨ k = g then m.length + 1 else if k < wr.heap.size then L k else 0) a' (ps ++ [sb]) (n + 1) c' (m ++ [t]) F := by
  have gs := hsp.gs
  have gb := hsp.gb
  have gg := hsp.gg
  have low := hsp.low
  have s1 := h.bel.size
  have s2 := low.size
  have s3 := hD.size
  have s4 := u.size
  have two := h.two
  have l1 : sb < w2.heap.size := hsp.at'.lt
  have l2 : b < w2.heap.size := hsp.at'.set.hb
  have l3 : g < w2.heap.size := hsp.at'.set.hg
  have B2 : Below wr.heap.size wr D := low.trans (hD.mono s2)
  have old : ∀ k, k < wr.heap.size → (if k = sb ∨ k = b ∨ k = g then m.length + 1 else if k < wr.heap.size then L k else 0) = L k := fun k hk => by rw [if_neg (by omega), if_pos hk]
  have new : ∀ k, w2.heap.size ≤ k → (if k = sb ∨ k = b ∨ k = g then m.length + 1 else if k < wr.heap.size then L k else 0) = 0 := fun k hk => by rw [if_neg (by omega), if_neg (by omega)]
  refine ⟨((h.sp.more t hp hc hs hF hsp).keep hD).tu u (fun k hk => ?_), o, by simp [h.plen], fun q hq => ?_, fun k hk => by rw [old k (by omega)]; exact h.low k hk, fun k hk => new k (by omega), h.bel.trans ((B2.mono s1).trans (u.below (fun k hk => (h.row.ge k hk).1) (by omega))), h.two⟩
  · obtain ⟨k1, k2, _⟩ := h.row.ge k hk
    refine ⟨?_, by omega⟩
    show (if k = sb ∨ k = b ∨ k = g then m.length + 1 else if k < wr.heap.size then L k else 0) = 0
    rw [old k k2]; exact h.rz k hk
  · rcases ha with e | e
    · rw [e] at hq
      obtain ⟨k1, k2, _⟩ := h.row.ge q hq
      rw [old q k2]; exact h.rz q hq
    · rw [e] at hq
      have : D.heap.size = q := Option.some.inj hq
      exact new q (by omega)
/-- What stand answers. -/
def StandR (w : World) (ts : List Td) (n : Nat) (r : Bool) (e : Ending) (w' : World) : Prop :=
  (r = true ∧ ∃ a c L ps, e = .returned (.tuple #[.slice a n c, .bool true]) ∧ Sta w w' L a ps n c (ts.map snT) (FT ts)) ∨ (r = false ∧ e = .returned (.tuple #[.slice none 0 0, .bool false]) ∧ Below w.heap.size w w')
end Go.Proofs.YtbfamjnnlcopiaaDoor

/- Spans that stand: how they are kept and turned; those of a class. -/
namespace Go.Proofs.YtbfamjnnlcopiaaDoor
open Go.RowKit
set_option linter.unusedVariables false
set_option maxRecDepth 4000

theorem Sta.keep {w wr w' : World} {L : Nat → Nat} {a : Option Addr} {ps : List Nat} {n c : Nat} {m : List Sn} {F : Nat → Nat → Bool} (h : Sta w wr L a ps n c m F) (hb : Below wr.heap.size wr w') : Sta w w' L a ps n c m F :=
  ⟨h.sp.keep hb, h.row.keep hb, h.plen, h.rz, h.low, fun k hk => h.high k (by have := hb.size; omega), h.bel.trans (hb.mono h.bel.size), h.two⟩
/-- Blocks of no span and no pointers turned. -/
theorem Sta.tu {S : Nat → Prop} {w wr w' : World} {L : Nat → Nat} {a : Option Addr} {ps : List Nat} {n c : Nat} {m : List Sn} {F : Nat → Nat → Bool} (h : Sta w wr L a ps n c m F) (ht : Tu S wr w') (hS : ∀ k, S k → L k = 0 ∧ w.heap.size ≤ k ∧ ob a ≠ some k) : Sta w w' L a ps n c m F :=
  ⟨h.sp.tu ht (fun k hk => ⟨(hS k hk).1, by have := (hS k hk).2.1; have := h.two; omega⟩), h.row.same (fun g o hg ho => ht.block g o ho (fun hk => (hS g hk).2.2 hg)), h.plen, h.rz, h.low, fun k hk => h.high k (by have := ht.size; omega), h.bel.trans (ht.below (fun k hk => (hS k hk).2.1) h.bel.size), h.two⟩
/-- A span in memory. -/
theorem Sta.at {w wr : World} {L : Nat → Nat} {a : Option Addr} {ps : List Nat} {n c : Nat} {m : List Sn} {F : Nat → Nat → Bool} (h : Sta w wr L a ps n c m F) (i : Nat) (hi : i < m.length) : ∃ b g, SpanAt wr (ps.getD i 0) b g ((sn m i).pg : Int) ((sn m i).cl : Int) ((sn m i).bts : Int) (F i) ∧ L (ps.getD i 0) = i + 1 ∧ L b = i + 1 ∧ L g = i + 1 := by
  have hp : i < ps.length := by rw [h.sp.len]; exact hi
  rw [getD_eq 0 hp]
  exact h.sp.sp i hi hp
theorem Sta.turned {w wr w' : World} {L : Nat → Nat} {a : Option Addr} {ps : List Nat} {n c : Nat} {m : List Sn} {F : Nat → Nat → Bool} (h : Sta w wr L a ps n c m F) (i : Nat) (hi : i < m.length) (b g : Nat) (f' : Nat → Bool) (hp' : L (ps.getD i 0) = i + 1) (hb : L b = i + 1) (hg : L g = i + 1) (hs : SpanAt w' (ps.getD i 0) b g ((sn m i).pg : Int) ((sn m i).cl : Int) ((sn m i).bts : Int) f') (on : Only g wr w') : Sta w w' L a ps n c m (updF F i f') := by
  have hp : i < ps.length := by rw [h.sp.len]; exact hi
  rw [getD_eq 0 hp] at hs hp'
  refine ⟨h.sp.turned i hi hp b g f' hb hg hp' hs on, h.row.same (fun q o hq ho => by rw [on.block q (fun e => by have := h.rz q hq; rw [e] at this; omega)]; exact ho), h.plen, h.rz, h.low, fun k hk => h.high k (by rw [on.size] at hk; exact hk), h.bel.trans (on.below ?_), h.two⟩
  rcases Nat.lt_or_ge g w.heap.size with k | k
  · have := h.low g k; omega
  · exact k
/-- A row of pointers to some of the spans. -/
structure Sub (w wr : World) (L : Nat → Nat) (ps : List Nat) (own : List Nat) (aq : Option Addr) (nq cq : Nat) : Prop where
  row : Ps wr w.heap.size aq (own.map (fun i => ps.getD i 0)) cq
  len : own.length = nq
  rz : ∀ g, ob aq = some g → L g = 0
theorem Sub.keep {w wr w' : World} {L : Nat → Nat} {ps own : List Nat} {aq : Option Addr} {nq cq : Nat} (h : Sub w wr L ps own aq nq cq) (hb : Below wr.heap.size wr w') : Sub w w' L ps own aq nq cq := ⟨h.row.keep hb, h.len, h.rz⟩
theorem Sub.same {w wr w' : World} {L : Nat → Nat} {ps own : List Nat} {aq : Option Addr} {nq cq : Nat} (h : Sub w wr L ps own aq nq cq) (he : ∀ g o, ob aq = some g → wr.heap[g]? = some o → w'.heap[g]? = some o) : Sub w w' L ps own aq nq cq := ⟨h.row.same he, h.len, h.rz⟩
theorem Sub.at {w wr : World} {L : Nat → Nat} {ps own : List Nat} {aq : Option Addr} {nq cq : Nat} (h : Sub w wr L ps own aq nq cq) (r : Nat) (hr : r < own.length) : ∃ g, aq = some ⟨g, 0, none⟩ ∧ wr.cell? ⟨g, r, none⟩ = some (.pointer (some ⟨ps.getD (own.getD r 0) 0, 0, none⟩)) := by
  obtain ⟨g, e, hc⟩ := h.row.at r (by simpa using hr)
  refine ⟨g, e, ?_⟩
  rw [hc, List.getElem_map, getD_eq 0 hr]
theorem Std.rt {P : Nat} {m : List Sn} (h : Std P m) (i : Nat) (hi : i < m.length) : Rt ((sn m i).pg : Int) ((sn m i).cl : Int) ((sn m i).bts : Int) := by
  have ok := h.ok i hi
  have tp := h.top i hi
  have ms := h.most
  exact ⟨by omega, by have := ok.c7; omega, fun e => by have := ok.sm (by omega); omega, fun e => ok.lg (by omega), by omega, by have e : (sn m i).k = pgsN ((sn m i).cl : Int) ((sn m i).bts : Int) := rfl; omega⟩
end Go.Proofs.YtbfamjnnlcopiaaDoor
