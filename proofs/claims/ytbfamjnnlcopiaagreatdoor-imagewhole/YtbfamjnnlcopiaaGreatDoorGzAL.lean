/- Rows of moves; what tell, within and Where do. -/
import Derived.Test.YtbfamjnnlcopiaaGreatDoorLaA
import Derived.Deep.RegionHeld3
namespace Go.Proofs.YtbfamjnnlcopiaaGreatDoor
open Go.RowKit
set_option linter.unusedVariables false
set_option maxRecDepth 4000

theorem wpList_run {ops : Array Oper} {rest : List Oper} {o : Oper} {a : Act} {Q : Exit → Act → World → Prop} {w : World} (hgd : o.guard = none) (t : TypeId) (hty : o.type = t) (s x : Operand)
    (ho : o.op = .call { callee := .builtin .append, args := #[s, x], argTypes := #[t, t] }) (v1 v2 v' : Value) (w' : World) (hs : a.eval s = v1) (hx : a.eval x = v2)
    (hrun : (Builtin.append_ #[t, t] t #[v1, v2]).run Tryz.prog w = .ok v' w') (h : wpList Tryz.prog ops Q rest (a.put o.dst v') w') : wpList Tryz.prog ops Q (o :: rest) a w := by
  refine wpList_plain hgd fun K' hK' => ?_
  unfold Oper.wp
  simp [execOp, ho, hty, resolve, invoke, builtin, hs, hx, hrun, Result.andThen]
  exact hK' _ _ h
end Go.Proofs.YtbfamjnnlcopiaaGreatDoor

/- Spans that stand, in memory. -/
namespace Go.Proofs.YtbfamjnnlcopiaaGreatDoor
open Go.RowKit
set_option linter.unusedVariables false
set_option maxRecDepth 4000

/-- The spans of the code's plan: pointers ps, each span's blocks labelled by its place; F: what is taken. -/
structure Sps (w : World) (L : Nat → Nat) (ps : List Nat) (m : List Sn) (F : Nat → Nat → Bool) : Prop where
  tab : Tabs w
  l0 : L 0 = 0
  l1 : L 1 = 0
  len : ps.length = m.length
  sp : ∀ i (hi : i < m.length) (hp : i < ps.length), ∃ b g, SpanAt w ps[i] b g ((sn m i).pg : Int) ((sn m i).cl : Int) ((sn m i).bts : Int) (F i) ∧ L ps[i] = i + 1 ∧ L b = i + 1 ∧ L g = i + 1
theorem Sps.same {w w' : World} {L : Nat → Nat} {ps : List Nat} {m : List Sn} {F : Nat → Nat → Bool} (h : Sps w L ps m F) (hs : w.heap.size ≤ w'.heap.size) (he : ∀ (k : Nat) (o : Obj), w.heap[k]? = some o → (L k ≠ 0 ∨ k = 0 ∨ k = 1) → w'.heap[k]? = some o) : Sps w' L ps m F := by
  have eq : ∀ k, k < w.heap.size → (L k ≠ 0 ∨ k = 0 ∨ k = 1) → w'.heap[k]? = w.heap[k]? := fun k hk hL => by rw [Array.getElem?_eq_getElem hk]; exact he k _ (Array.getElem?_eq_getElem hk) hL
  refine ⟨⟨⟨by have := h.tab.1.1; omega, fun j hj => ?_⟩, ⟨by have := h.tab.2.1; omega, fun j hj => ?_⟩⟩, h.l0, h.l1, h.len, fun i hi hp => ?_⟩
  · rw [World.cell?_of_block (a := ⟨0, j, none⟩) (eq 0 h.tab.1.1 (.inr (.inl rfl)))]; exact h.tab.1.2 j hj
  · rw [World.cell?_of_block (a := ⟨1, j, none⟩) (eq 1 h.tab.2.1 (.inr (.inr rfl)))]; exact h.tab.2.2 j hj
  · obtain ⟨b, g, h0, h1, h2, h3⟩ := h.sp i hi hp
    exact ⟨b, g, h0.blocks (eq _ h0.lt (.inl (by omega))) (eq _ h0.set.hb (.inl (by omega))) (eq _ h0.set.hg (.inl (by omega))) hs, h1, h2, h3⟩
theorem Sps.keep {w w' : World} {L : Nat → Nat} {ps : List Nat} {m : List Sn} {F : Nat → Nat → Bool} (h : Sps w L ps m F) (hb : Below w.heap.size w w') : Sps w' L ps m F := h.same hb.size (fun k o ho _ => by rw [hb.block k (hlt ho)]; exact ho)
theorem Sps.tu {S : Nat → Prop} {w w' : World} {L : Nat → Nat} {ps : List Nat} {m : List Sn} {F : Nat → Nat → Bool} (h : Sps w L ps m F) (ht : Tu S w w') (hS : ∀ k, S k → L k = 0 ∧ 2 ≤ k) : Sps w' L ps m F := h.same ht.size (fun k o ho hk => ht.block k o ho (fun hs => by have := hS k hs; omega))
/-- A span's slots turned. -/
theorem Sps.turned {w w' : World} {L : Nat → Nat} {ps : List Nat} {m : List Sn} {F : Nat → Nat → Bool} (h : Sps w L ps m F) (i : Nat) (hi : i < m.length) (hp : i < ps.length) (b g : Nat) (f' : Nat → Bool) (hb : L b = i + 1) (hg : L g = i + 1) (hpi : L ps[i] = i + 1) (hs : SpanAt w' ps[i] b g ((sn m i).pg : Int) ((sn m i).cl : Int) ((sn m i).bts : Int) f') (on : Only g w w') : Sps w' L ps m (updF F i f') := by
  have hz := h.l0
  have hz1 := h.l1
  refine ⟨⟨⟨by rw [on.size]; exact h.tab.1.1, fun j hj => ?_⟩, ⟨by rw [on.size]; exact h.tab.2.1, fun j hj => ?_⟩⟩, h.l0, h.l1, h.len, fun j hj hpj => ?_⟩
  · rw [on.cell (p := ⟨0, j, none⟩) (fun e => by have e : 0 = g := e; rw [← e] at hg; omega)]; exact h.tab.1.2 j hj
  · rw [on.cell (p := ⟨1, j, none⟩) (fun e => by have e : 1 = g := e; rw [← e] at hg; omega)]; exact h.tab.2.2 j hj
  · unfold updF
    by_cases e : j = i
    · subst e; rw [if_pos rfl]; exact ⟨b, g, hs, hpi, hb, hg⟩
    · rw [if_neg e]
      obtain ⟨b', g', k0, k1, k2, k3⟩ := h.sp j hj hpj
      exact ⟨b', g', k0.beside on (fun e' => by rw [e'] at k1; omega) (fun e' => by rw [e'] at k2; omega) (fun e' => by rw [e'] at k3; omega), k1, k2, k3⟩
/-- The k-th of spans that came in. -/
def tdD (ts : List Td) (k : Nat) : Td := ts.getD k ⟨0, 0, 0, []⟩
def snT (t : Td) : Sn := ⟨t.p.toNat, t.c.toNat, t.s.toNat⟩
def FT (ts : List Td) : Nat → Nat → Bool := fun i => fOf (tdD ts i).l
def endT (ts : List Td) : Nat → Int
  | 0 => 0
  | k + 1 => (tdD ts k).p + (pgsN (tdD ts k).c (tdD ts k).s : Int)
/-- May the k-th stand behind the one ahead of it? -/
def okT (P : Int) (ts : List Td) (k : Nat) : Bool := decide (newE (tdD ts k).p (tdD ts k).c (tdD ts k).s = 0 ∧ okL (slN (tdD ts k).c) (-1) (tdD ts k).l = true ∧ endT ts k ≤ (tdD ts k).p ∧ (tdD ts k).p + (pgsN (tdD ts k).c (tdD ts k).s : Int) ≤ P)
def stdU (P : Int) (ts : List Td) : Nat → Bool
  | 0 => true
  | k + 1 => stdU P ts k && okT P ts k
def stdB (P : Int) (ts : List Td) : Bool := decide (1 ≤ P ∧ P ≤ 4096) && stdU P ts ts.length
theorem stdU_false {P : Int} {ts : List Td} {k : Nat} (h : okT P ts k = false) : ∀ n, k < n → stdU P ts n = false
  | n + 1, hk => by
    rw [stdU]
    rcases Nat.lt_or_eq_of_le (Nat.le_of_lt_succ hk) with e | rfl
    · rw [stdU_false h n e, Bool.false_and]
    · rw [h, Bool.and_false]
theorem tdD_at {ts : List Td} {k : Nat} (h : k < ts.length) : tdD ts k = ts[k] := getD_eq _ h
/-- One span more. -/
theorem Sps.more {wr w' : World} {L : Nat → Nat} {ps : List Nat} {m : List Sn} {F : Nat → Nat → Bool} {sb b g : Nat} {p c s : Int} {f : Nat → Bool} (h : Sps wr L ps m F) (t : Sn) (hp : (t.pg : Int) = p) (hc : (t.cl : Int) = c) (hs : (t.bts : Int) = s) (hF : F m.length = f) (hsp : Spn wr w' sb b g p c s f) :
    Sps w' (fun k => if k = sb ∨ k = b ∨ k = g then m.length + 1 else if k < wr.heap.size then L k else 0) (ps ++ [sb]) (m ++ [t]) F := by
  have gs := hsp.gs
  have gb := hsp.gb
  have gg := hsp.gg
  have low := hsp.low
  have t0 := h.tab.1.1
  have t1 := h.tab.2.1
  have old : ∀ k, k < wr.heap.size → (if k = sb ∨ k = b ∨ k = g then m.length + 1 else if k < wr.heap.size then L k else 0) = L k := fun k hk => by rw [if_neg (by omega), if_pos hk]
  refine ⟨h.tab.keep low, by rw [old 0 t0]; exact h.l0, by rw [old 1 t1]; exact h.l1, by simp [h.len], fun i hi hpi => ?_⟩
  rw [List.length_append, List.length_singleton] at hi
  by_cases e : i = m.length
  · subst e
    have e1 : (ps ++ [sb])[m.length] = sb := by rw [List.getElem_append_right (by rw [h.len]; exact Nat.le_refl _)]; simp [h.len]
    have e2 : sn (m ++ [t]) m.length = t := by unfold sn; simp
    rw [e1, e2, hp, hc, hs, hF]
    exact ⟨b, g, hsp.at', if_pos (.inl rfl), if_pos (.inr (.inl rfl)), if_pos (.inr (.inr rfl))⟩
  · have hi' : i < m.length := by omega
    have hp' : i < ps.length := by rw [h.len]; exact hi'
    have e1 : (ps ++ [sb])[i] = ps[i] := List.getElem_append_left hp'
    have e2 : sn (m ++ [t]) i = sn m i := by unfold sn; simp only [List.getD_eq_getElem?_getD, List.getElem?_append_left hi']
    rw [e1, e2]
    obtain ⟨b', g', k0, k1, k2, k3⟩ := h.sp i hi' hp'
    exact ⟨b', g', k0.keep low, by rw [old _ k0.lt]; exact k1, by rw [old _ k0.set.hb]; exact k2, by rw [old _ k0.set.hg]; exact k3⟩
end Go.Proofs.YtbfamjnnlcopiaaGreatDoor

/- Which spans may stand: stand. -/
namespace Go.Proofs.YtbfamjnnlcopiaaGreatDoor
open Go.RowKit
set_option linter.unusedVariables false
set_option maxRecDepth 4000

theorem Tryz.infoSp : (Tryz.prog.info? 103).map (fun i => (i.zero, i.size, i.bytes)) = some (some (.pointer none), 1, 8) := by kernel_rfl
theorem Tryz.undPs : Tryz.prog.underlying 166 = some (.slice 103) := by kernel_rfl
/-- Pointers in a row of one's own. -/
def Ps (w : World) (B : Nat) (a : Option Addr) (ps : List Nat) (c : Nat) : Prop := w.ownsRow B 103 1 (.slice a ps.length c) ps.length (ps.map ptrV)
theorem Ps.nil (w : World) (B : Nat) : Ps w B none [] 0 := World.ownsRow_nil _ _ _ _
theorem Ps.same {w w' : World} {B : Nat} {a : Option Addr} {l : List Nat} {c : Nat} (h : Ps w B a l c) (he : ∀ g o, ob a = some g → w.heap[g]? = some o → w'.heap[g]? = some o) : Ps w' B a l c := by
  obtain ⟨h0, h1 | ⟨g, c', cur, h1, hg, h2, h3⟩⟩ := h
  · exact ⟨h0, .inl h1⟩
  · exact ⟨h0, .inr ⟨g, c', cur, h1, hg, he g _ (by cases h1; rfl) h2, h3⟩⟩
theorem Ps.keep {w w' : World} {B : Nat} {a : Option Addr} {l : List Nat} {c : Nat} (h : Ps w B a l c) (hb : Below w.heap.size w w') : Ps w' B a l c := h.same (fun g o _ ho => by rw [hb.block g (hlt ho)]; exact ho)
theorem Ps.ge {w : World} {B : Nat} {a : Option Addr} {l : List Nat} {c : Nat} (h : Ps w B a l c) : ∀ g, ob a = some g → B ≤ g ∧ g < w.heap.size ∧ ∃ cur, w.heap[g]? = some (.cells cur 103 (0, 0)) := by
  intro g hg
  obtain ⟨_, ⟨h1, h3⟩ | ⟨g', c', cur, h1, hb, h2, _⟩⟩ := h
  · injection h1 with e1; subst e1; cases hg
  · cases h1; cases hg; exact ⟨hb, hlt h2, cur, h2⟩
theorem Ps.at {w : World} {B : Nat} {a : Option Addr} {l : List Nat} {c : Nat} (h : Ps w B a l c) (i : Nat) (hi : i < l.length) : ∃ g, a = some ⟨g, 0, none⟩ ∧ w.cell? ⟨g, i, none⟩ = some (.pointer (some ⟨l[i], 0, none⟩)) := by
  have h' := h
  obtain ⟨_, ⟨h1, h2⟩ | ⟨q, c', cur, h1, hg1, h2, _⟩⟩ := h
  · omega
  · cases h1
    refine ⟨q, rfl, ?_⟩
    rw [World.ownsRow.cellAt h' i (by omega)]
    simp [hi, ptrV]
theorem appP_run (B : Nat) (w : World) (hB : B ≤ w.heap.size) (a : Option Addr) (L : List Nat) (n cap : Nat) (h : Ps w B a L cap) (hn : L.length = n) (g p c : Nat) (hq : w.cell? ⟨g, 0, none⟩ = some (.pointer (some ⟨p, 0, none⟩))) (hL : L.length ≤ 1000000) :
    ∃ a' cap' w', (Builtin.append_ #[166, 166] 166 #[.slice a n cap, .slice (some ⟨g, 0, none⟩) 1 c]).run Tryz.prog w = .ok (.slice a' (n + 1) cap') w' ∧ Ps w' B a' (L ++ [p]) cap' ∧ Tu (fun k => ob a = some k) w w' ∧ (ob a' = ob a ∨ ob a' = some w.heap.size) := by
  subst hn
  obtain ⟨i0, hi, hz0, hz2, hz3⟩ := info_parts Tryz.infoSp
  obtain ⟨v', w', hr, h2, h3, _, h4⟩ := run_append_own_at (P := Tryz.prog) w B 166 166 103 i0 _ 1 8 Tryz.undPs hi hz0 hz2 hz3 rfl (by decide) (.slice a L.length cap) L.length (L.map ptrV) h ⟨g, 0, none⟩ 1 c [ptrV p] rfl (fun j u hj => by
      cases j with
      | zero => simp at hj; subst hj; rw [show (⟨g, 0, none⟩ : Addr).add 0 = ⟨g, 0, none⟩ from by simp [Addr.add]]; exact hq
      | succ j => simp at hj) (fun u hu => by simp at hu; subst hu; rfl) (by unfold maxLen; omega) (by omega) hB
  obtain ⟨a', cap', rfl⟩ : ∃ a' cap', v' = .slice a' (L.length + 1) cap' := by
    obtain ⟨_, ⟨h4, h5⟩ | ⟨g, c', cur, h4, _⟩⟩ := h2
    · exact ⟨_, _, by rw [h4, h5]⟩
    · exact ⟨_, _, h4⟩
  rw [ob_own] at h3 h4
  rw [ob_own] at h4
  refine ⟨a', cap', w', hr, ?_, Tu.grown h3 (fun g hg => hg), h4⟩
  unfold Ps
  rw [List.length_append, List.map_append]
  exact h2
/-- Spans that stand, and the row of their pointers. -/
structure Sta (w w' : World) (L : Nat → Nat) (a : Option Addr) (ps : List Nat) (n c : Nat) (m : List Sn) (F : Nat → Nat → Bool) : Prop where
  sp : Sps w' L ps m F
  row : Ps w' w.heap.size a ps c
  plen : ps.length = n
  rz : ∀ g, ob a = some g → L g = 0
  low : ∀ k, k < w.heap.size → L k = 0
  high : ∀ k, w'.heap.size ≤ k → L k = 0
  bel : Below w.heap.size w w'
  two : 2 ≤ w.heap.size
theorem Sta.append {w wr D w' : World} {L : Nat → Nat} {a a' : Option Addr} {ps : List Nat} {n c c' : Nat} {m : List Sn} {F : Nat → Nat → Bool} {sb b g : Nat} {p cc s : Int} {f : Nat → Bool} (h : Sta w wr L a ps n c m F) (w2 : World) (t : Sn) (hp : (t.pg : Int) = p) (hc : (t.cl : Int) = cc) (hs : (t.bts : Int) = s) (hF : F m.length = f) (hsp : Spn wr w2 sb b g p cc s f) (hD : Below w2.heap.size w2 D) (u : Tu (fun k => ob a = some k) D w') (o : Ps w' w.heap.size a' (ps ++ [sb]) c') (ha : ob a' = ob a ∨ ob a' = some D.heap.size) :
    Sta w w' (fun k => if k = sb ∨ k = b ∨ k = g then m.length + 1 else if k < wr.heap.size then L k else 0) a' (ps ++ [sb]) (n + 1) c' (m ++ [t]) F := by
  have gs := hsp.gs
  have gb := hsp.gb
  have gg := hsp.gg
  have low := hsp.low
  have s1 := h.bel.size
  have s2 := low.size
  have s3 := hD.size
  have s4 := u.size
  have two := h.two
  have l1 : sb < w2.heap.size := hsp.at'.lt
  have l2 : b < w2.heap.size := hsp.at'.set.hb
  have l3 : g < w2.heap.size := hsp.at'.set.hg
  have B2 : Below wr.heap.size wr D := low.trans (hD.mono s2)
  have old : ∀ k, k < wr.heap.size → (if k = sb ∨ k = b ∨ k = g then m.length + 1 else if k < wr.heap.size then L k else 0) = L k := fun k hk => by rw [if_neg (by omega), if_pos hk]
  have new : ∀ k, w2.heap.size ≤ k → (if k = sb ∨ k = b ∨ k = g then m.length + 1 else if k < wr.heap.size then L k else 0) = 0 := fun k hk => by rw [if_neg (by omega), if_neg (by omega)]
  refine ⟨((h.sp.more t hp hc hs hF hsp).keep hD).tu u (fun k hk => ?_), o, by simp [h.plen], fun q hq => ?_, fun k hk => by rw [old k (by omega)]; exact h.low k hk, fun k hk => new k (by omega), h.bel.trans ((B2.mono s1).trans (u.below (fun k hk => (h.row.ge k hk).1) (by omega))), h.two⟩
  · obtain ⟨k1, k2, _⟩ := h.row.ge k hk
    refine ⟨?_, by omega⟩
    show (if k = sb ∨ k = b ∨ k = g then m.length + 1 else if k < wr.heap.size then L k else 0) = 0
    rw [old k k2]; exact h.rz k hk
  · rcases ha with e | e
    · rw [e] at hq
      obtain ⟨k1, k2, _⟩ := h.row.ge q hq
      rw [old q k2]; exact h.rz q hq
    · rw [e] at hq
      have : D.heap.size = q := Option.some.inj hq
      exact new q (by omega)
/-- What stand answers. -/
def StandR (w : World) (ts : List Td) (n : Nat) (r : Bool) (e : Ending) (w' : World) : Prop :=
  (r = true ∧ ∃ a c L ps, e = .returned (.tuple #[.slice a n c, .bool true]) ∧ Sta w w' L a ps n c (ts.map snT) (FT ts)) ∨ (r = false ∧ e = .returned (.tuple #[.slice none 0 0, .bool false]) ∧ Below w.heap.size w w')
set_option maxRecDepth 20000 in
set_option maxHeartbeats 4000000 in
theorem stand_any (P : Int) (a : Option Addr) (n cap : Nat) (ts : List Td) (w : World) (hT : Tabs w) (h : RdT w a ts) (hn : ts.length = n) (hn9 : n ≤ 4000000000000000000) (hr : ∀ t ∈ ts, -9223372036854775808 ≤ t.p ∧ t.p ≤ 9223372036854775807) (r : Bool) (hR : stdB P ts = r) :
    Calls Tryz.prog 137 #[.int .i64 P, .slice a n cap] w (StandR w ts n r) := by
  have HT : Hid (Tabs w) := hT
  have H : Hid (RdT w a ts) := h
  have HN : Hid (ts.length = n) := hn
  have HRG : Hid (∀ t ∈ ts, -9223372036854775808 ≤ t.p ∧ t.p ≤ 9223372036854775807) := hr
  have two : 2 ≤ w.heap.size := by have := hT.2.1; omega
  have TWO : Hid (2 ≤ w.heap.size) := two
  clear hT h hr two
  by_cases hP : 1 ≤ P ∧ P ≤ 4096
  · have hR' : stdU P ts n = r := by rw [← hR]; unfold stdB; rw [decide_eq_true hP, Bool.true_and, hn]
    have HR : Hid (stdU P ts n = r) := hR'
    have p1 : ¬ (P < 1) := by omega
    have p2 : ¬ (4096 < P) := by omega
    clear hR hn hR'
    go_enter Tryz.func137, Tryz.ntmps137
    go_wp2_with fail
    go_loopw [6, 7, 20] (fun av ev iv wr => ∃ (k : Nat) (a' : Option Addr) (c' : Nat) (L : Nat → Nat) (ps : List Nat) (e : Int), k ≤ n ∧ iv = .int .i64 (k : Nat) ∧ av = .slice a' k c' ∧ ev = .int .i64 e ∧ endT ts k = e ∧ stdU P ts k = true ∧ 0 ≤ e ∧ e ≤ 4096 ∧ (k : Int) ≤ e ∧ Sta w wr L a' ps k c' ((ts.map snT).take k) (FT ts)) (fun _ _ iv _ => n - lenW iv)
    case atStart => exact ⟨0, none, 0, fun _ => 0, [], 0, Nat.zero_le _, rfl, rfl, rfl, rfl, rfl, Int.le_refl _, by omega, by omega, ⟨⟨HT.out, rfl, rfl, rfl, (fun i hi => by simp at hi)⟩, Ps.nil _ _, rfl, (fun g hg => by cases hg), (fun _ _ => rfl), (fun _ _ => rfl), Below.refl _ _, TWO.out⟩⟩
    case round =>
      obtain ⟨k, a', c', L, ps, e, hk, rfl, rfl, rfl, he, hstd, he0, he1, hk4, hSt⟩ := hrel
      rename World => wr
      have ST : Hid (Sta w wr L a' ps k c' ((ts.map snT).take k) (FT ts)) := hSt
      have STD : Hid (stdU P ts k = true) := hstd
      have HE : Hid (endT ts k = e) := he
      clear hSt hstd he
      by_cases hkn : k < n
      · have hkt : k < ts.length := by rw [HN.out]; exact hkn
        obtain ⟨g, off, la, lk, rfl, c0, c1, c2, c3, hI, hl⟩ := (H.out.keep ST.out.bel) k hkt
        have hrg := HRG.out ts[k] (List.getElem_mem hkt)
        have hD : tdD ts k = ts[k] := tdD_at hkt
        obtain ⟨t, ht⟩ : ∃ t, ts[k] = t := ⟨_, rfl⟩
        rw [ht] at c0 c1 c2 c3 hI hl hrg hD
        have HTD : Hid (tdD ts k = t) := hD
        have OKT : Hid (okT P ts k = decide (newE t.p t.c t.s = 0 ∧ okL (slN t.c) (-1) t.l = true ∧ e ≤ t.p ∧ t.p + (pgsN t.c t.s : Int) ≤ P)) := by show _ = _; unfold okT; rw [hD, HE.out]
        obtain ⟨p, c, s, l⟩ := t
        simp only at c0 c1 c2 c3 hI hl hrg OKT
        have II : Hid (IsI wr la l) := hI
        have LL : Hid (l.length ≤ maxLen) := hl
        obtain ⟨E, hE⟩ : ∃ E, wr.alloc (.cells #[.int .i64 p, .int .i64 c, .int .i64 s, .slice la l.length lk] 33) = E := ⟨_, rfl⟩
        have BE : Hid (Below wr.heap.size wr E) := by show Below _ _ _; rw [← hE]; exact (Below.refl _ wr).alloc (Nat.le_refl _) _
        have RE : E.heap[wr.heap.size]? = some (.cells (dcells p c s la l.length lk) 33 (0, 0)) := by rw [← hE]; exact Go.heap_alloc_new wr _
        have HEE : Hid (wr.alloc (.cells #[.int .i64 p, .int .i64 c, .int .i64 s, .slice la l.length lk] 33) = E) := hE
        have e0 := dcell0 RE
        have e1 := dcell1 RE
        have e2 := dcell2 RE
        have e3 := dcell3 RE
        have TE : Hid (Tabs E) := ST.out.sp.tab.keep BE.out
        have IE : Hid (IsI E la l) := II.out.keep BE.out
        have k0 : (k : Int) < (n : Int) := by omega
        clear hI hl hE RE ht hD
        by_cases hof : newE p c s = 0 ∧ okL (slN c) (-1) l = true
        · have HOF : Hid (newE p c s = 0 ∧ okL (slN c) (-1) l = true) := hof
          have RT := newE_rt hof.1
          have HRT : Hid (Rt p c s) := RT
          have pk := pgsN_le c s
          have rp0 := RT.p0
          have rp1 := RT.p1
          obtain ⟨G, hG⟩ : ∃ G, pgsN c s = G := ⟨_, rfl⟩
          have HG : Hid (pgsN c s = G) := hG
          rw [hG] at OKT pk rp1
          have OKT2 : Hid (okT P ts k = decide (e ≤ p ∧ p + (G : Int) ≤ P)) := by
            show _ = _
            rw [OKT.out]
            congr 1
            exact propext ⟨fun h => ⟨h.2.2.1, h.2.2.2⟩, fun h => ⟨hof.1, hof.2, h.1, h.2⟩⟩
          clear hof hG RT OKT
          go_upto_region 8 with (fail)
          rw [HEE.out]
          go_wp2_with fail
          refine (of_ok p c s la lk l _ TE.out IE.out LL.out HOF.out.1 HOF.out.2).mono ?_
          rintro e' w2 ⟨sb, b, g2, rfl, sp2⟩
          have SP : Hid (Spn E w2 sb b g2 p c s (fOf l)) := sp2
          have SPR : Hid (Spn wr w2 sb b g2 p c s (fOf l)) := sp2.back BE.out
          have T2 : Hid (Tabs w2) := TE.out.keep sp2.low
          have BX : Hid (Bx w2 sb p c s) := sp2.at'.box
          clear sp2 e0 e1 e2 e3 c0 c1 c2 c3
          by_cases hpe : p < e
          · have F : Hid (r = false) := by
              show _ = _
              rw [← HR.out]
              exact stdU_false (by rw [OKT2.out]; exact decide_eq_false (by omega)) n hkn
            have BF : Hid (Below w.heap.size w w2) := ST.out.bel.trans (SPR.out.low.mono ST.out.bel.size)
            go_wp2_with (go_at_call 97; refine (page_any sb p c s _ BX.out).mono ?_; rintro e w' ⟨rfl, rfl⟩)
            go_ret2
            exact .inr ⟨F.out, rfl, BF.out⟩
          · have n1 : ¬ (p < e) := hpe
            by_cases hPG : P < p + (G : Int)
            · have F : Hid (r = false) := by
                show _ = _
                rw [← HR.out]
                exact stdU_false (by rw [OKT2.out]; exact decide_eq_false (by omega)) n hkn
              have BF : Hid (Below w.heap.size w w2) := ST.out.bel.trans (SPR.out.low.mono ST.out.bel.size)
              go_wp2_with (first
                | (go_at_call 97; refine (page_any sb p c s _ BX.out).mono ?_; rintro e w' ⟨rfl, rfl⟩)
                | (go_at_call 126; refine (pages_any sb p c s _ BX.out T2.out.1 HRT.out.c0 HRT.out.c7).mono ?_; rw [HG.out]; rintro e w' ⟨rfl, rfl⟩))
              go_ret2
              exact .inr ⟨F.out, rfl, BF.out⟩
            · have n2 : ¬ (P < p + (G : Int)) := hPG
              have G1 := HRT.out.facts.2.2.2.2.2.2.1
              rw [HG.out] at G1
              have NSTD : Hid (stdU P ts (k + 1) = true) := by show _ = _; rw [stdU, STD.out, OKT2.out, decide_eq_true (by omega)]; rfl
              have NEND : Hid (endT ts (k + 1) = p + (G : Int)) := by show _ = _; rw [endT, HTD.out]; show p + (pgsN c s : Int) = _; rw [HG.out]
              have MT : Hid ((ts.map snT).take (k + 1) = (ts.map snT).take k ++ [snT ⟨p, c, s, l⟩]) := by
                show _ = _
                have hkl : k < (ts.map snT).length := by rw [List.length_map, HN.out]; exact hkn
                rw [List.take_succ_eq_append_getElem hkl, List.getElem_map, ← HTD.out, tdD_at (by rw [HN.out]; exact hkn)]
              have ML : ((ts.map snT).take k).length = k := by rw [List.length_take, List.length_map, HN.out]; omega
              have FK : FT ts k = fOf l := by unfold FT; rw [HTD.out]
              obtain ⟨D, hD⟩ : ∃ D, w2.alloc (.cells #[.pointer (some ⟨sb, 0, none⟩)] 103) = D := ⟨_, rfl⟩
              have bD : Below w2.heap.size w2 D := by rw [← hD]; exact (Below.refl _ w2).alloc (Nat.le_refl _) _
              have cD : D.cell? ⟨w2.heap.size, 0, none⟩ = some (.pointer (some ⟨sb, 0, none⟩)) := by rw [← hD]; exact cell_of_row _ _ 0 _ _ _ (Go.heap_alloc_new w2 _)
              have s2 := SPR.out.low
              have z1 := ST.out.bel.size
              obtain ⟨a9, c9, w9, run9, o9, u9, n9⟩ := appP_run w.heap.size D (by have := s2.size; have := bD.size; omega) a' ps k c' ((ST.out.row.keep s2).keep bD) ST.out.plen w2.heap.size sb 1 cD (by rw [ST.out.plen]; omega)
              have NST := ST.out.append w2 (snT ⟨p, c, s, l⟩) (by show ((p.toNat : Nat) : Int) = p; omega) (by show ((c.toNat : Nat) : Int) = c; have := HRT.out.c0; omega) (by
                show ((s.toNat : Nat) : Int) = s
                have := HRT.out
                by_cases e7 : c = 7
                · have := pagesN_large (this.lg e7); omega
                · have := this.sm (by have := this.c7; omega); omega) (by rw [ML]; exact FK) SPR.out bD u9 o9 n9
              rw [ML, ← MT.out] at NST
              obtain ⟨L9, hL9⟩ : ∃ L9 : Nat → Nat, (fun j => if j = sb ∨ j = b ∨ j = g2 then k + 1 else if j < wr.heap.size then L j else 0) = L9 := ⟨_, rfl⟩
              rw [hL9] at NST
              have HNST : Hid (Sta w w9 L9 a9 (ps ++ [sb]) (k + 1) c9 ((ts.map snT).take (k + 1)) (FT ts)) := NST
              have RUN9 : Hid ((Builtin.append_ #[166, 166] 166 #[.slice a' k c', .slice (some ⟨w2.heap.size, 0, none⟩) 1 1]).run Tryz.prog D = .ok (.slice a9 (k + 1) c9) w9) := run9
              clear NST hL9 run9 o9 u9 n9 bD cD s2 ML FK
              go_wp2_with (first
                | (go_at_call 97; refine (page_any sb p c s _ BX.out).mono ?_; rintro e w' ⟨rfl, rfl⟩)
                | (go_at_call 126; refine (pages_any sb p c s _ BX.out T2.out.1 HRT.out.c0 HRT.out.c7).mono ?_; rw [HG.out]; rintro e w' ⟨rfl, rfl⟩)
                | (at_builtin; refine wpList_run rfl 166 rfl _ _ rfl (.slice a' k c') (.slice (some ⟨w2.heap.size, 0, none⟩) 1 1) _ _ rfl rfl RUN9.out ?_))
              go_roundw
              case rel => exact ⟨k + 1, a9, c9, L9, ps ++ [sb], p + (G : Int), by omega, by congr 1, rfl, rfl, NEND.out, NSTD.out, by omega, by omega, by omega, HNST.out⟩
              case measure => simp [lenW]; omega
        · have F : Hid (r = false) := by
            show _ = _
            rw [← HR.out]
            exact stdU_false (by rw [OKT.out]; exact decide_eq_false (fun q => hof ⟨q.1, q.2.1⟩)) n hkn
          obtain ⟨x, hx0, hx⟩ : ∃ x : Int, x ≠ 0 ∧ ((newE p c s = x ∧ x ≠ 0) ∨ (newE p c s = 0 ∧ okL (slN c) (-1) l = false ∧ x = 4)) := by
            by_cases e : newE p c s = 0
            · refine ⟨4, by decide, .inr ⟨e, ?_, rfl⟩⟩
              cases eo : okL (slN c) (-1) l with
              | false => rfl
              | true => exact absurd ⟨e, eo⟩ hof
            · exact ⟨_, e, .inl ⟨rfl, e⟩⟩
          have HX : Hid ((newE p c s = x ∧ x ≠ 0) ∨ (newE p c s = 0 ∧ okL (slN c) (-1) l = false ∧ x = 4)) := hx
          have x0 : (x == 0) = false := beq_eq_false_iff_ne.2 hx0
          have x1 : (x != 0) = true := by rw [bne, x0]; rfl
          clear hof OKT hx
          go_upto_region 8 with (fail)
          rw [HEE.out]
          go_wp2_with (go_at_call 61; refine (of_fail p c s la lk l x _ TE.out IE.out LL.out hrg HX.out).mono ?_; rintro e' w2 ⟨rfl, b2⟩; have BF : Hid (Below w.heap.size w w2) := ST.out.bel.trans ((BE.out.trans (b2.mono BE.out.size)).mono ST.out.bel.size); clear b2)
          go_ret2
          exact .inr ⟨F.out, rfl, BF.out⟩
      · obtain rfl : k = n := by omega
        have F : Hid (r = true ∧ Sta w wr L a' ps k c' (ts.map snT) (FT ts)) := by
          refine ⟨by rw [← HR.out]; exact STD.out, ?_⟩
          have := ST.out
          rw [List.take_of_length_le (by rw [List.length_map, HN.out]; exact Nat.le_refl _)] at this
          exact this
        go_wp2
        go_ret2
        exact .inl ⟨F.out.1, a', c', L, ps, rfl, F.out.2⟩
  · have F : Hid (r = false) := by show _ = _; rw [← hR]; unfold stdB; rw [decide_eq_false hP, Bool.false_and]
    clear hR
    rcases Int.lt_or_le P 1 with h1 | h1
    · clear hP
      go_enter Tryz.func137, Tryz.ntmps137
      go_wp2
      go_ret2
      exact .inr ⟨F.out, rfl, Below.refl _ _⟩
    · have h2 : 4096 < P := by omega
      have h3 : ¬ (P < 1) := by omega
      clear hP
      go_enter Tryz.func137, Tryz.ntmps137
      go_wp2
      go_ret2
      exact .inr ⟨F.out, rfl, Below.refl _ _⟩
end Go.Proofs.YtbfamjnnlcopiaaGreatDoor

/- Spans that stand: how they are kept and turned; those of a class. -/
namespace Go.Proofs.YtbfamjnnlcopiaaGreatDoor
open Go.RowKit
set_option linter.unusedVariables false
set_option maxRecDepth 4000

theorem Sta.keep {w wr w' : World} {L : Nat → Nat} {a : Option Addr} {ps : List Nat} {n c : Nat} {m : List Sn} {F : Nat → Nat → Bool} (h : Sta w wr L a ps n c m F) (hb : Below wr.heap.size wr w') : Sta w w' L a ps n c m F :=
  ⟨h.sp.keep hb, h.row.keep hb, h.plen, h.rz, h.low, fun k hk => h.high k (by have := hb.size; omega), h.bel.trans (hb.mono h.bel.size), h.two⟩
/-- Blocks of no span and no pointers turned. -/
theorem Sta.tu {S : Nat → Prop} {w wr w' : World} {L : Nat → Nat} {a : Option Addr} {ps : List Nat} {n c : Nat} {m : List Sn} {F : Nat → Nat → Bool} (h : Sta w wr L a ps n c m F) (ht : Tu S wr w') (hS : ∀ k, S k → L k = 0 ∧ w.heap.size ≤ k ∧ ob a ≠ some k) : Sta w w' L a ps n c m F :=
  ⟨h.sp.tu ht (fun k hk => ⟨(hS k hk).1, by have := (hS k hk).2.1; have := h.two; omega⟩), h.row.same (fun g o hg ho => ht.block g o ho (fun hk => (hS g hk).2.2 hg)), h.plen, h.rz, h.low, fun k hk => h.high k (by have := ht.size; omega), h.bel.trans (ht.below (fun k hk => (hS k hk).2.1) h.bel.size), h.two⟩
/-- A span in memory. -/
theorem Sta.at {w wr : World} {L : Nat → Nat} {a : Option Addr} {ps : List Nat} {n c : Nat} {m : List Sn} {F : Nat → Nat → Bool} (h : Sta w wr L a ps n c m F) (i : Nat) (hi : i < m.length) : ∃ b g, SpanAt wr (ps.getD i 0) b g ((sn m i).pg : Int) ((sn m i).cl : Int) ((sn m i).bts : Int) (F i) ∧ L (ps.getD i 0) = i + 1 ∧ L b = i + 1 ∧ L g = i + 1 := by
  have hp : i < ps.length := by rw [h.sp.len]; exact hi
  rw [getD_eq 0 hp]
  exact h.sp.sp i hi hp
theorem Sta.turned {w wr w' : World} {L : Nat → Nat} {a : Option Addr} {ps : List Nat} {n c : Nat} {m : List Sn} {F : Nat → Nat → Bool} (h : Sta w wr L a ps n c m F) (i : Nat) (hi : i < m.length) (b g : Nat) (f' : Nat → Bool) (hp' : L (ps.getD i 0) = i + 1) (hb : L b = i + 1) (hg : L g = i + 1) (hs : SpanAt w' (ps.getD i 0) b g ((sn m i).pg : Int) ((sn m i).cl : Int) ((sn m i).bts : Int) f') (on : Only g wr w') : Sta w w' L a ps n c m (updF F i f') := by
  have hp : i < ps.length := by rw [h.sp.len]; exact hi
  rw [getD_eq 0 hp] at hs hp'
  refine ⟨h.sp.turned i hi hp b g f' hb hg hp' hs on, h.row.same (fun q o hq ho => by rw [on.block q (fun e => by have := h.rz q hq; rw [e] at this; omega)]; exact ho), h.plen, h.rz, h.low, fun k hk => h.high k (by rw [on.size] at hk; exact hk), h.bel.trans (on.below ?_), h.two⟩
  rcases Nat.lt_or_ge g w.heap.size with k | k
  · have := h.low g k; omega
  · exact k
/-- A row of pointers to some of the spans. -/
structure Sub (w wr : World) (L : Nat → Nat) (ps : List Nat) (own : List Nat) (aq : Option Addr) (nq cq : Nat) : Prop where
  row : Ps wr w.heap.size aq (own.map (fun i => ps.getD i 0)) cq
  len : own.length = nq
  rz : ∀ g, ob aq = some g → L g = 0
theorem Sub.keep {w wr w' : World} {L : Nat → Nat} {ps own : List Nat} {aq : Option Addr} {nq cq : Nat} (h : Sub w wr L ps own aq nq cq) (hb : Below wr.heap.size wr w') : Sub w w' L ps own aq nq cq := ⟨h.row.keep hb, h.len, h.rz⟩
theorem Sub.same {w wr w' : World} {L : Nat → Nat} {ps own : List Nat} {aq : Option Addr} {nq cq : Nat} (h : Sub w wr L ps own aq nq cq) (he : ∀ g o, ob aq = some g → wr.heap[g]? = some o → w'.heap[g]? = some o) : Sub w w' L ps own aq nq cq := ⟨h.row.same he, h.len, h.rz⟩
theorem Sub.at {w wr : World} {L : Nat → Nat} {ps own : List Nat} {aq : Option Addr} {nq cq : Nat} (h : Sub w wr L ps own aq nq cq) (r : Nat) (hr : r < own.length) : ∃ g, aq = some ⟨g, 0, none⟩ ∧ wr.cell? ⟨g, r, none⟩ = some (.pointer (some ⟨ps.getD (own.getD r 0) 0, 0, none⟩)) := by
  obtain ⟨g, e, hc⟩ := h.row.at r (by simpa using hr)
  refine ⟨g, e, ?_⟩
  rw [hc, List.getElem_map, getD_eq 0 hr]
theorem Std.rt {P : Nat} {m : List Sn} (h : Std P m) (i : Nat) (hi : i < m.length) : Rt ((sn m i).pg : Int) ((sn m i).cl : Int) ((sn m i).bts : Int) := by
  have ok := h.ok i hi
  have tp := h.top i hi
  have ms := h.most
  exact ⟨by omega, by have := ok.c7; omega, fun e => by have := ok.sm (by omega); omega, fun e => ok.lg (by omega), by omega, by have e : (sn m i).k = pgsN ((sn m i).cl : Int) ((sn m i).bts : Int) := rfl; omega⟩
end Go.Proofs.YtbfamjnnlcopiaaGreatDoor

/- All slots given back: lift. -/
namespace Go.Proofs.YtbfamjnnlcopiaaGreatDoor
open Go.RowKit
set_option linter.unusedVariables false
set_option maxRecDepth 4000

end Go.Proofs.YtbfamjnnlcopiaaGreatDoor

/- A class gathered. -/
namespace Go.Proofs.YtbfamjnnlcopiaaGreatDoor
open Go.RowKit
set_option linter.unusedVariables false
set_option maxRecDepth 4000

theorem OwnsI.kind {w : World} {B : Nat} {a : Option Addr} {l : List Int} {c : Nat} (h : OwnsI w B a l c) : ∀ k, ob a = some k → ∃ cur, w.heap[k]? = some (.cells cur 3 (0, 0)) := fun k hk => by
  obtain ⟨_, ⟨h1, _⟩ | ⟨g', c', cur', h1, _, h2, _⟩⟩ := h
  · injection h1 with e1; subst e1; cases hk
  · cases h1; cases hk
    exact ⟨_, h2⟩
end Go.Proofs.YtbfamjnnlcopiaaGreatDoor

/- The spans closed up. -/
namespace Go.Proofs.YtbfamjnnlcopiaaGreatDoor
open Go.RowKit
set_option linter.unusedVariables false
set_option maxRecDepth 4000

theorem Told.kind {w : World} {B : Nat} {a : Option Addr} {n c : Nat} {ts : List Td} (h : Told w B (.slice a n c) ts) {k : Nat} (hk : ob a = some k) : B ≤ k ∧ k < w.heap.size ∧ ∃ cur, w.heap[k]? = some (.cells cur 33 (0, 0)) := by
  obtain ⟨rs, _, ⟨_, ⟨k1, k2⟩ | ⟨g, c, cur, k1, hb, h2, _⟩⟩, _⟩ := h
  · cases k1; cases hk
  · cases k1; cases hk; exact ⟨hb, hlt h2, cur, h2⟩
theorem Sta.grown {w wr w' : World} {L : Nat → Nat} {a a0 : Option Addr} {ps : List Nat} {n c n0 c0 B' : Nat} {m : List Sn} {F : Nat → Nat → Bool} {ts : List Td} (h : Sta w wr L a ps n c m F) (t : Told wr B' (.slice a0 n0 c0) ts) (hB : w.heap.size ≤ B') (hz : ∀ g, ob a0 = some g → L g = 0) (u : Tu (fun k => ob a0 = some k) wr w') : Sta w w' L a ps n c m F :=
  h.tu u (fun k hk => by
    obtain ⟨h1, h2, cur, h3⟩ := t.kind hk
    refine ⟨hz k hk, by omega, fun e => ?_⟩
    obtain ⟨_, _, cur', h5⟩ := h.row.ge k e
    rw [h3] at h5
    simp at h5)
end Go.Proofs.YtbfamjnnlcopiaaGreatDoor
