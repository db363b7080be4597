/- A view in memory of one's own. -/
import Derived.Test.YtebmegghojiegaaDoorBbB
import Derived.Test.YtebmegghojiegaaDoorGsJ
import Derived.Deep.RegionLaw
import Derived.BigQuiet
namespace Go.Proofs.YtebmegghojiegaaDoor
open Go.RowKit
set_option linter.unusedVariables false

theorem cellsW_set (r : HRw) : ∀ (l : List HRw) (i : Nat), i < l.length → ((((cellsW l).set (i * 4) (.int .i64 r.gen)).set (i * 4 + 1) (.bool r.live)).set (i * 4 + 2) (.int .i64 r.kind)).set (i * 4 + 3) (.int .i64 r.pl) = cellsW (l.set i r)
  | q :: l, 0, _ => rfl
  | q :: l, i + 1, h => by
    have := cellsW_set r l i (by simpa using h)
    rw [show (i + 1) * 4 = i * 4 + 4 by omega]
    show .int .i64 q.gen :: .bool q.live :: .int .i64 q.kind :: .int .i64 q.pl :: ((((cellsW l).set (i * 4) (.int .i64 r.gen)).set (i * 4 + 1) (.bool r.live)).set (i * 4 + 2) (.int .i64 r.kind)).set (i * 4 + 3) (.int .i64 r.pl) = _
    rw [this]
    rfl
theorem cellsW_set3 (x : Int) : ∀ (l : List HRw) (i : Nat), i < l.length → (cellsW l).set (i * 4 + 3) (.int .i64 x) = cellsW (l.set i { rwD l i with pl := x })
  | q :: l, 0, _ => rfl
  | q :: l, i + 1, h => by
    have := cellsW_set3 x l i (by simpa using h)
    rw [show (i + 1) * 4 = i * 4 + 4 by omega]
    show .int .i64 q.gen :: .bool q.live :: .int .i64 q.kind :: .int .i64 q.pl :: (cellsW l).set (i * 4 + 3) (.int .i64 x) = _
    rw [this]
    rfl
theorem Ow.put {w w' : World} {B g c : Nat} {l l' : List HRw} (h : Ow w B (some ⟨g, 0, none⟩) l c) (hl : l'.length = l.length) (k : ∀ cur : Array Value, w.heap[g]? = some (.cells cur 50 (0, 0)) → cur.toList.take (l.length * 4) = cellsW l → ∃ cur' : Array Value, w'.heap[g]? = some (.cells cur' 50 (0, 0)) ∧ cur'.size = cur.size ∧ cur'.toList.take (l.length * 4) = cellsW l') : Ow w' B (some ⟨g, 0, none⟩) l' c := by
  obtain ⟨h0, ⟨h1, _⟩ | ⟨g', c', cur, h1, hb, h2, h3, h4, h5, h6⟩⟩ := h
  · cases h1
  · cases h1
    obtain ⟨cur', k1, k2, k3⟩ := k cur h2 h6
    refine ⟨by rw [cellsW_len], .inr ⟨g, c, cur', by rw [hl], hb, k1, by omega, h4, by omega, by rw [hl]; exact k3⟩⟩
/-- A row's place turned. -/
theorem Ow.set3 {w : World} {B g c : Nat} {l : List HRw} (h : Ow w B (some ⟨g, 0, none⟩) l c) (i : Nat) (hi : i < l.length) (x : Int) : Ow (w.setCell ⟨g, i * 4 + 3, none⟩ (.int .i64 x)) B (some ⟨g, 0, none⟩) (l.set i { rwD l i with pl := x }) c :=
  h.put (by simp) (fun cur hc hk => ⟨_, heap_setCell_same w g _ _ _ _ hc, by simp, by rw [Array.toList_setIfInBounds, List.take_set, hk, cellsW_set3 x l i hi]⟩)
/-- A row put in the place of another. -/
def layW (w : World) (g o : Nat) (r : HRw) : World := (((w.setCell ⟨g, o, none⟩ (.int .i64 r.gen)).setCell ⟨g, o + 1, none⟩ (.bool r.live)).setCell ⟨g, o + 2, none⟩ (.int .i64 r.kind)).setCell ⟨g, o + 3, none⟩ (.int .i64 r.pl)
theorem layW_only (w : World) (g o : Nat) (r : HRw) : Only g w (layW w g o r) :=
  (((Only.set g o _ w).trans (Only.set g (o + 1) _ _)).trans (Only.set g (o + 2) _ _)).trans (Only.set g (o + 3) _ _)
theorem Ow.set {w : World} {B g c : Nat} {l : List HRw} (h : Ow w B (some ⟨g, 0, none⟩) l c) (i : Nat) (hi : i < l.length) (r : HRw) : Ow (layW w g (i * 4) r) B (some ⟨g, 0, none⟩) (l.set i r) c := by
  refine h.put (by simp) (fun cur hc hk => ?_)
  have h1 := heap_setCell_same w g (i * 4) _ _ (.int .i64 r.gen) hc
  have h2 := heap_setCell_same _ g (i * 4 + 1) _ _ (.bool r.live) h1
  have h3 := heap_setCell_same _ g (i * 4 + 2) _ _ (.int .i64 r.kind) h2
  have h4 := heap_setCell_same _ g (i * 4 + 3) _ _ (.int .i64 r.pl) h3
  refine ⟨_, h4, by simp, ?_⟩
  rw [Array.toList_setIfInBounds, List.take_set, Array.toList_setIfInBounds, List.take_set, Array.toList_setIfInBounds, List.take_set, Array.toList_setIfInBounds, List.take_set, hk, cellsW_set r l i hi]
theorem Ow.isW {w : World} {B : Nat} {a : Option Addr} {l : List HRw} {c : Nat} (h : Ow w B a l c) : IsW w a l := by
  by_cases e : l = []
  · exact .inl e
  · obtain ⟨g, ea, hb, hs, _⟩ := h.cells 0 (by rcases l with _ | ⟨x, l⟩; exact absurd rfl e; simp)
    refine .inr ⟨g, 0, ea, hs, fun i hi => ?_⟩
    obtain ⟨g', ea', _, _, hc⟩ := h.cells i hi
    rw [ea] at ea'
    cases ea'
    simpa using hc
theorem Told.same {w w' : World} {B : Nat} {v : Value} {ts : List Td} (h : Told w B v ts) (he : ∀ (g : Nat) (cur : Array Value) (t : TypeId), w.heap[g]? = some (.cells cur t (0, 0)) → (t = 58 ∨ t = 3) → w'.heap[g]? = some (.cells cur t (0, 0))) : Told w' B v ts := by
  obtain ⟨rs, e1, ⟨k0, k1 | ⟨g, c, cur, k1, k2, k3, k4⟩⟩, e3⟩ := h
  · refine ⟨rs, e1, ⟨k0, .inl k1⟩, fun r hr => (e3 r hr).same (fun g o hg ho => ?_)⟩
    obtain ⟨cur, hc⟩ := (e3 r hr).kind g hg
    rw [ho] at hc; cases hc
    exact he g _ _ ho (.inr rfl)
  · refine ⟨rs, e1, ⟨k0, .inr ⟨g, c, cur, k1, k2, he g _ _ k3 (.inl rfl), k4⟩⟩, fun r hr => (e3 r hr).same (fun g o hg ho => ?_)⟩
    obtain ⟨cur, hc⟩ := (e3 r hr).kind g hg
    rw [ho] at hc; cases hc
    exact he g _ _ ho (.inr rfl)
theorem RowK.same {w w' : World} {B : Nat} {a : Option Addr} {xs : List Kd} {c : Nat} (h : RowK w B a xs c) (he : ∀ (g : Nat) (cur : Array Value), w.heap[g]? = some (.cells cur 53 (0, 0)) → w'.heap[g]? = some (.cells cur 53 (0, 0))) : RowK w' B a xs c := by
  obtain ⟨k0, k1 | ⟨g, c, cur, k1, k2, k3, k4⟩⟩ := h
  · exact ⟨k0, .inl k1⟩
  · exact ⟨k0, .inr ⟨g, c, cur, k1, k2, he g _ k3, k4⟩⟩
/-- Kinds of one's own. -/
def Kow (w : World) (B : Nat) (a : Option Addr) (ks : List Kn) (c : Nat) : Prop := ∃ xs : List Kd, xs.map (fun x => (⟨x.s, x.l⟩ : Kn)) = ks ∧ RowK w B a xs c ∧ ∀ x ∈ xs, OwnsI w B x.a x.l x.c
theorem Kow.nil (w : World) (B : Nat) : Kow w B none [] 0 := ⟨[], rfl, World.ownsRow_nil _ _ _ _, fun x h => by cases h⟩
theorem Kow.same {w w' : World} {B : Nat} {a : Option Addr} {ks : List Kn} {c : Nat} (h : Kow w B a ks c) (he : ∀ (g : Nat) (cur : Array Value) (t : TypeId), w.heap[g]? = some (.cells cur t (0, 0)) → (t = 53 ∨ t = 3) → w'.heap[g]? = some (.cells cur t (0, 0))) : Kow w' B a ks c := by
  obtain ⟨xs, e1, e2, e3⟩ := h
  refine ⟨xs, e1, e2.same (fun g cur hc => he g cur _ hc (.inl rfl)), fun x hx => (e3 x hx).same (fun g o hg ho => ?_)⟩
  obtain ⟨cur, hc⟩ := (e3 x hx).kind g hg
  rw [ho] at hc; cases hc
  exact he g _ _ ho (.inr rfl)
theorem Kow.keep {w w' : World} {B : Nat} {a : Option Addr} {ks : List Kn} {c : Nat} (h : Kow w B a ks c) (hb : Below w.heap.size w w') : Kow w' B a ks c := h.same (fun g cur t hc _ => bblock hb hc)
theorem Kow.rd {w : World} {B : Nat} {a : Option Addr} {ks : List Kn} {c : Nat} (h : Kow w B a ks c) (hi : ∀ k ∈ ks, ∀ x ∈ k.l, -9223372036854775808 ≤ x ∧ x ≤ 9223372036854775807) (hm : ∀ k ∈ ks, k.l.length ≤ maxLen) : RdK w a ks := by
  obtain ⟨xs, e1, e2, e3⟩ := h
  intro i hi'
  have hl : xs.length = ks.length := by rw [← e1, List.length_map]
  have hx : i < xs.length := by omega
  have ek : ks[i] = ⟨xs[i].s, xs[i].l⟩ := by subst e1; simp
  obtain ⟨g, ea, hs, c0, c1⟩ := e2.cells i hx
  have ho := e3 xs[i] (List.getElem_mem hx)
  have hin := hi ks[i] (List.getElem_mem hi')
  have hmx := hm ks[i] (List.getElem_mem hi')
  rw [ek] at hin hmx ⊢
  refine ⟨g, 0, xs[i].a, xs[i].c, ea, by rw [Nat.zero_add]; exact c0, by rw [Nat.zero_add]; exact c1, ownsI_isI hin ho, fun e => ?_, hmx⟩
  obtain ⟨_, ⟨h1, h2⟩ | ⟨g', c', cur, h1, _⟩⟩ := ho
  · injection h1 with _ q1 q2
    exact ⟨List.eq_nil_of_length_eq_zero q1, q2⟩
  · rw [e] at h1; cases h1
/-- A view that lies in blocks of one's own, those of its rows and its bytes named. -/
structure Cpy (w : World) (B : Nat) (V : Vw) (A : Va) (gr gb : Nat) : Prop where
  ra : A.ra = some ⟨gr, 0, none⟩
  ba : A.ba = some ⟨gb, 0, none⟩
  rn : V.rs.length = A.rn
  sn : V.ts.length = A.sn
  bn : V.bs.length = A.bn
  kn : V.ks.length = A.kn
  rows : Ow w B (some ⟨gr, 0, none⟩) V.rs A.rc
  spans : Told w B (.slice A.sa A.sn A.sc) V.ts
  bytes : OwnsB w B (some ⟨gb, 0, none⟩) V.bs A.bc
  kinds : Kow w B A.ka V.ks A.kc
theorem Cpy.keep {w w' : World} {B : Nat} {V : Vw} {A : Va} {gr gb : Nat} (h : Cpy w B V A gr gb) (hb : Below w.heap.size w w') : Cpy w' B V A gr gb :=
  ⟨h.ra, h.ba, h.rn, h.sn, h.bn, h.kn, h.rows.keep hb, h.spans.keep hb, h.bytes.keep hb, h.kinds.keep hb⟩
/-- Rows turned: the rest stays. -/
theorem Cpy.rowed {w w' : World} {B : Nat} {V : Vw} {A : Va} {gr gb : Nat} (h : Cpy w B V A gr gb) {rs : List HRw} (on : Only gr w w') (ho : Ow w' B (some ⟨gr, 0, none⟩) rs A.rc) (hl : rs.length = V.rs.length) : Cpy w' B ⟨V.base, V.pgs, V.ks, rs, V.ts, V.bs⟩ A gr gb := by
  obtain ⟨cur, hc⟩ := h.rows.kind gr rfl
  have he : ∀ (g : Nat) (c : Array Value) (t : TypeId), w.heap[g]? = some (.cells c t (0, 0)) → t ≠ 50 → w'.heap[g]? = some (.cells c t (0, 0)) := fun g c t hg ht => by
    rw [on.block g (kind_ne hg hc ht)]; exact hg
  refine ⟨h.ra, h.ba, hl.trans h.rn, h.sn, h.bn, h.kn, ho, h.spans.same (fun g c t hg ht => he g c t hg ?_), h.bytes.same (fun g o hg ho => ?_), h.kinds.same (fun g c t hg ht => he g c t hg ?_)⟩
  · rcases ht with rfl | rfl <;> decide
  · obtain ⟨_, c2, hc2⟩ := h.bytes.kind g hg
    rw [ho] at hc2; cases hc2
    exact he g _ _ ho (by decide)
  · rcases ht with rfl | rfl <;> decide
/-- Bytes turned: the rest stays. -/
theorem Cpy.byted {w w' : World} {B : Nat} {V : Vw} {A : Va} {gr gb : Nat} (h : Cpy w B V A gr gb) {bs : List Int} (tg : Tg gb w w') (ho : OwnsB w' B (some ⟨gb, 0, none⟩) bs A.bc) (hl : bs.length = V.bs.length) : Cpy w' B ⟨V.base, V.pgs, V.ks, V.rs, V.ts, bs⟩ A gr gb := by
  obtain ⟨_, cur, hc⟩ := h.bytes.kind gb rfl
  have he : ∀ (g : Nat) (c : Array Value) (t : TypeId), w.heap[g]? = some (.cells c t (0, 0)) → t ≠ 5 → w'.heap[g]? = some (.cells c t (0, 0)) := fun g c t hg ht => by
    rw [tg.block g (hlt hg) (kind_ne hg hc ht)]; exact hg
  refine ⟨h.ra, h.ba, h.rn, h.sn, hl.trans h.bn, h.kn, h.rows.same (fun g o hg ho => ?_), h.spans.same (fun g c t hg ht => he g c t hg ?_), ho, h.kinds.same (fun g c t hg ht => he g c t hg ?_)⟩
  · obtain ⟨c2, hc2⟩ := h.rows.kind g hg
    rw [ho] at hc2; cases hc2
    exact he g _ _ ho (by decide)
  · rcases ht with rfl | rfl <;> decide
  · rcases ht with rfl | rfl <;> decide
/-- What a view must be, whatever memory it lies in. -/
structure Nums (V : Vw) : Prop where
  ki : ∀ k ∈ V.ks, (∀ x ∈ k.l, -9223372036854775808 ≤ x ∧ x ≤ 9223372036854775807) ∧ k.l.length ≤ maxLen
  si : ∀ t ∈ V.ts, ∀ x ∈ t.l, -9223372036854775808 ≤ x ∧ x ≤ 9223372036854775807
  ab : AllB V.bs
  bi : i64 V.base
  pi : i64 V.pgs
  ti : ∀ t ∈ V.ts, i64 t.p
  ri : ∀ r ∈ V.rs, i64 r.pl ∧ i64 r.kind ∧ i64 r.gen
  kz : V.ks.length ≤ 64
  rz : V.rs.length ≤ 300
  tz : V.ts.length ≤ 64
  bz : V.bs.length ≤ 16384
theorem Rv.nums {w : World} {V : Vw} {A : Va} (h : Rv w V A) : Nums V := by
  refine ⟨fun k hk => ?_, fun t ht => ?_, h.bs.all, h.bi, h.pi, h.ti, h.ri, h.kz, h.rz, h.tz, h.bz⟩
  · obtain ⟨i, hi, rfl⟩ := List.getElem_of_mem hk
    obtain ⟨g, o, la, lc, _, _, _, hI, _, hm⟩ := h.ks i hi
    exact ⟨hI.1, hm⟩
  · obtain ⟨i, hi, rfl⟩ := List.getElem_of_mem ht
    obtain ⟨g, off, la, lk, _, _, _, _, _, hI, _⟩ := h.ts i hi
    exact hI.1
theorem Told.len {w : World} {B : Nat} {a : Option Addr} {n c : Nat} {ts : List Td} (h : Told w B (.slice a n c) ts) : n ≤ c ∧ c ≤ 9223372036854775807 := by
  obtain ⟨rs, _, ⟨_, ⟨k1, k2⟩ | ⟨g, c', cur, k1, _, _, k3, k4, _⟩⟩, _⟩ := h
  · injection k1 with _ q1 q2
    omega
  · cases k1
    unfold maxLen at k4
    omega
theorem Cpy.rv {w : World} {B : Nat} {V : Vw} {A : Va} {gr gb : Nat} (h : Cpy w B V A gr gb) (n : Nums V) : Rv w V A := by
  have hb : A.bn ≤ A.bc ∧ A.bc ≤ 9223372036854775807 := by
    obtain ⟨_, ⟨k1, k2⟩ | ⟨g, c', cur, k1, _, _, k3, k4, _⟩⟩ := h.bytes
    · cases k1
    · cases k1
      unfold maxLen at k4
      have := h.bn
      omega
  refine ⟨h.kn, h.rn, h.sn, h.bn, h.kinds.rd (fun k hk => (n.ki k hk).1) (fun k hk => (n.ki k hk).2), by rw [h.ra]; exact h.rows.isW, h.spans.rd n.si, by rw [h.ba]; exact ownsB_isB n.ab h.bytes, n.bi, n.pi, n.ti, n.ri, n.kz, n.rz, n.tz, n.bz, h.spans.len, hb⟩
end Go.Proofs.YtebmegghojiegaaDoor

/- The document's Copy of a view. -/
namespace Go.Proofs.YtebmegghojiegaaDoor
open Go.RowKit
set_option linter.unusedVariables false
set_option linter.unusedSimpArgs false

/-- Just new memory. -/
def Bl (a w : World) : Prop := Below a.heap.size a w
theorem Bl.refl (a : World) : Bl a a := Below.refl _ a
theorem Bl.trans {a b c : World} (h : Bl a b) (k : Bl b c) : Bl a c := Below.trans h (Below.mono k (Below.size h))
theorem Bl.alloc {a b : World} (h : Bl a b) (o : Obj) : Bl a (b.alloc o) := Below.alloc h (Below.size h) _
theorem Bl.drew {a b : World} (h : Bl a b) : Bl a b.drew := below_drewN h 1
theorem Bl.row {a b : World} {g : Nat} {o : Obj} (h : Bl a b) (hg : a.heap[g]? = some o) : b.heap[g]? = some o := bblock h hg
def zV : Array Value := #[.int .i64 0, .int .i64 0, .slice none 0 0, .slice none 0 0, .slice none 0 0, .slice none 0 0]
/-- Rows of any list put behind none: a list of one's own. -/
theorem appW_all (B : Nat) (w : World) (hB : B ≤ w.heap.size) (g0 : Nat) (h : Ow w B (some ⟨g0, 0, none⟩) [] 0) (la : Option Addr) (l : List HRw) (n lk : Nat) (hn : l.length = n) (hI : IsW w la l) (hl : l.length ≤ 300) :
    ∃ g' cap' w', (Builtin.append_ #[23, 23] 23 #[.slice (some ⟨g0, 0, none⟩) 0 0, .slice la n lk]).run Tryd.prog w = .ok (.slice (some ⟨g', 0, none⟩) n cap') w' ∧ Ow w' B (some ⟨g', 0, none⟩) l cap' ∧ Tu (fun k => k = g0) w w' := by
  subst hn
  obtain ⟨i0, hi, hz0, hz2, hz3⟩ := info_parts Tryd.infoW
  cases la with
  | none =>
    have e : l = [] := by
      rcases hI with e | ⟨b, off, e, _⟩
      · exact e
      · cases e
    subst e
    refine ⟨g0, 0, w, ?_, h, Tu.refl _ _⟩
    show (Builtin.append_ #[23, 23] 23 #[.slice (some ⟨g0, 0, none⟩) 0 0, .slice none 0 lk]).run Tryd.prog w = _
    rw [app_nil_cap Tryd.prog w _ _ _ Tryd.undRows hi]
    exact run_append_owned_none (P := Tryd.prog) (w := w) B 23 23 50 i0 4 Tryd.undRows hi _ _ _ h
  | some x =>
    have hc : ∀ j u, (cellsW l)[j]? = some u → w.cell? (x.add j) = some u := fun j u hj => by
      rcases hI with e | ⟨b, off, e, _, hc⟩
      · subst e; simp [cellsW] at hj
      · cases e
        have hlt : j < l.length * 4 := by have := (List.getElem?_eq_some_iff.1 hj).1; rw [cellsW_len] at this; exact this
        have hi2 : j / 4 < l.length := by omega
        rw [addr_add]
        obtain ⟨k0, k1, k2, k3⟩ := cellsW_at l (j / 4) hi2
        obtain ⟨q0, q1, q2, q3⟩ := hc (j / 4) hi2
        rcases (by omega : j % 4 = 0 ∨ j % 4 = 1 ∨ j % 4 = 2 ∨ j % 4 = 3) with e | e | e | e
        · have e' : j / 4 * 4 = j := by omega
          rw [e'] at k0 q0
          rw [q0, ← k0]; exact hj
        · have e' : j / 4 * 4 + 1 = j := by omega
          rw [Nat.add_assoc, e'] at q1
          rw [e'] at k1
          rw [q1, ← k1]; exact hj
        · have e' : j / 4 * 4 + 2 = j := by omega
          rw [Nat.add_assoc, e'] at q2
          rw [e'] at k2
          rw [q2, ← k2]; exact hj
        · have e' : j / 4 * 4 + 3 = j := by omega
          rw [Nat.add_assoc, e'] at q3
          rw [e'] at k3
          rw [q3, ← k3]; exact hj
    obtain ⟨v', w', hr, h2, h3, _, h4⟩ := run_append_own_at (P := Tryd.prog) w B 23 23 50 i0 _ 4 32 Tryd.undRows hi hz0 hz2 hz3 rfl (by decide) (.slice (some ⟨g0, 0, none⟩) 0 0) 0 (cellsW []) h x l.length lk (cellsW l) (cellsW_len l) hc (cellsW_one l) (by unfold maxLen; omega) (by omega) hB
    simp only [Nat.zero_add, cellsW, List.nil_append] at h2
    obtain ⟨a', cap', rfl⟩ := howns_form h2
    have hg : ∃ g', a' = some ⟨g', 0, none⟩ := by
      obtain ⟨_, ⟨k1, k2⟩ | ⟨g, c, cur, k1, _⟩⟩ := h2
      · rw [k1] at h4
        rcases h4 with h4 | h4 <;> cases h4
      · cases k1; exact ⟨_, rfl⟩
    obtain ⟨g', rfl⟩ := hg
    refine ⟨g', cap', w', by simpa using hr, h2, Tu.grown h3 (fun g hg => ?_)⟩
    have : some g0 = some g := hg
    exact (Option.some.inj this).symm
/-- Lists of one's own under way. -/
theorem tu_keeps {w w' : World} {g0 : Nat} {c0 : Array Value} (u : Tu (fun k => k = g0) w w') (h0 : w.heap[g0]? = some (.cells c0 50 (0, 0))) {g : Nat} {c : Array Value} {t : TypeId} (h : w.heap[g]? = some (.cells c t (0, 0))) (ht : t ≠ 50) : w'.heap[g]? = some (.cells c t (0, 0)) :=
  u.block g _ h (fun e => by subst e; rw [h0] at h; cases h; exact ht rfl)
/-- Three worlds in which rows are put behind none, and what is there behind it. -/
theorem rows_put (D : World) (ra : Option Addr) (rs : List HRw) (rn rc : Nat) (hn : rs.length = rn) (hI : IsW D ra rs) (hl : rs.length ≤ 300) :
    (∃ gr rc1 w1, (Builtin.append_ #[23, 23] 23 #[.slice (some ⟨D.heap.size, 0, none⟩) 0 0, .slice ra rn rc]).run Tryd.prog (D.alloc (.cells #[] 50)).drew = .ok (.slice (some ⟨gr, 0, none⟩) rn rc1) w1 ∧ Ow w1 D.heap.size (some ⟨gr, 0, none⟩) rs rc1 ∧ Bl D w1) ∧
    (∃ gr rc1 w1, (Builtin.append_ #[23, 23] 23 #[.slice (some ⟨D.heap.size, 0, none⟩) 0 0, .slice ra rn rc]).run Tryd.prog ((D.alloc (.cells #[] 50)).alloc (.cells zV 27)).drew = .ok (.slice (some ⟨gr, 0, none⟩) rn rc1) w1 ∧ Ow w1 D.heap.size (some ⟨gr, 0, none⟩) rs rc1 ∧ Bl D w1 ∧ w1.heap[D.heap.size + 1]? = some (.cells zV 27 (0, 0))) ∧
    (∃ gr rc1 w1, (Builtin.append_ #[23, 23] 23 #[.slice (some ⟨D.heap.size + 1, 0, none⟩) 0 0, .slice ra rn rc]).run Tryd.prog ((D.alloc (.cells zV 27)).alloc (.cells #[] 50)).drew = .ok (.slice (some ⟨gr, 0, none⟩) rn rc1) w1 ∧ Ow w1 D.heap.size (some ⟨gr, 0, none⟩) rs rc1 ∧ Bl D w1 ∧ w1.heap[D.heap.size]? = some (.cells zV 27 (0, 0))) := by
  have key : ∀ (W : World) (g0 : Nat), Bl D W → D.heap.size ≤ g0 → W.heap[g0]? = some (.cells #[] 50 (0, 0)) → ∃ gr rc1 w1, (Builtin.append_ #[23, 23] 23 #[.slice (some ⟨g0, 0, none⟩) 0 0, .slice ra rn rc]).run Tryd.prog W = .ok (.slice (some ⟨gr, 0, none⟩) rn rc1) w1 ∧ Ow w1 D.heap.size (some ⟨gr, 0, none⟩) rs rc1 ∧ Bl D w1 ∧ Tu (fun k => k = g0) W w1 := fun W g0 hb hg h0 => by
    have o : Ow W D.heap.size (some ⟨g0, 0, none⟩) [] 0 := ⟨rfl, .inr ⟨g0, 0, #[], rfl, hg, h0, Nat.le_refl _, Nat.zero_le _, rfl, rfl⟩⟩
    obtain ⟨gr, rc1, w1, h1, h2, h3⟩ := appW_all D.heap.size W (Below.size hb) g0 o ra rs rn rc hn (hI.keep hb) hl
    exact ⟨gr, rc1, w1, h1, h2, Below.trans hb (h3.below (fun i e => by rw [e]; exact hg) (Below.size hb)), h3⟩
  refine ⟨?_, ?_, ?_⟩
  · obtain ⟨gr, rc1, w1, h1, h2, h3, _⟩ := key (D.alloc (.cells #[] 50)).drew D.heap.size ((Bl.refl D).alloc _).drew (Nat.le_refl _) (Go.heap_alloc_new D _)
    exact ⟨gr, rc1, w1, h1, h2, h3⟩
  · have r0 : ((D.alloc (.cells #[] 50)).alloc (.cells zV 27)).heap[D.heap.size]? = some (.cells #[] 50 (0, 0)) := ((Bl.refl (D.alloc (.cells #[] 50))).alloc _).row (Go.heap_alloc_new D _)
    obtain ⟨gr, rc1, w1, h1, h2, h3, h4⟩ := key ((D.alloc (.cells #[] 50)).alloc (.cells zV 27)).drew D.heap.size (((Bl.refl D).alloc _).alloc _).drew (Nat.le_refl _) r0
    have z : ((D.alloc (.cells #[] 50)).alloc (.cells zV 27)).drew.heap[D.heap.size + 1]? = some (.cells zV 27 (0, 0)) := by
      have z' : ((D.alloc (.cells #[] 50)).alloc (.cells zV 27)).heap[D.heap.size + 1]? = some (.cells zV 27 (0, 0)) := by
        have := Go.heap_alloc_new (D.alloc (.cells #[] 50)) (.cells zV 27)
        simpa using this
      exact z'
    exact ⟨gr, rc1, w1, h1, h2, h3, tu_keeps h4 r0 z (by decide)⟩
  · have r0 : ((D.alloc (.cells zV 27)).alloc (.cells #[] 50)).heap[D.heap.size + 1]? = some (.cells #[] 50 (0, 0)) := by
      have := Go.heap_alloc_new (D.alloc (.cells zV 27)) (.cells #[] 50)
      simpa using this
    obtain ⟨gr, rc1, w1, h1, h2, h3, h4⟩ := key ((D.alloc (.cells zV 27)).alloc (.cells #[] 50)).drew (D.heap.size + 1) (((Bl.refl D).alloc _).alloc _).drew (Nat.le_succ _) r0
    have z : ((D.alloc (.cells zV 27)).alloc (.cells #[] 50)).drew.heap[D.heap.size]? = some (.cells zV 27 (0, 0)) := ((Bl.refl (D.alloc (.cells zV 27))).alloc _).row (Go.heap_alloc_new D _)
    exact ⟨gr, rc1, w1, h1, h2, h3, tu_keeps h4 r0 z (by decide)⟩
end Go.Proofs.YtebmegghojiegaaDoor

/- The document's Copy of a view: its walk. -/
namespace Go.Proofs.YtebmegghojiegaaDoor
open Go.RowKit
set_option linter.unusedVariables false
set_option linter.unusedSimpArgs false

def vw6 (V : Vw) (A : Va) : Array Value := #[.int .i64 V.base, .int .i64 V.pgs, .slice A.ka A.kn A.kc, .slice A.ra A.rn A.rc, .slice A.sa A.sn A.sc, .slice A.ba A.bn A.bc]
theorem six {w : World} {g : Nat} {t : TypeId} {a b c d e f : Value} (h : w.heap[g]? = some (.cells #[a, b, c, d, e, f] t (0, 0))) : w.cell? ⟨g, 0, none⟩ = some a ∧ w.cell? ⟨g, 1, none⟩ = some b ∧ w.cell? ⟨g, 2, none⟩ = some c ∧ w.cell? ⟨g, 3, none⟩ = some d ∧ w.cell? ⟨g, 4, none⟩ = some e ∧ w.cell? ⟨g, 5, none⟩ = some f :=
  ⟨cell_of_row _ _ 0 _ _ _ h, cell_of_row _ _ 1 _ _ _ h, cell_of_row _ _ 2 _ _ _ h, cell_of_row _ _ 3 _ _ _ h, cell_of_row _ _ 4 _ _ _ h, cell_of_row _ _ 5 _ _ _ h⟩
theorem sixF {w : World} {g : Nat} {t : TypeId} {cs : Array Value} (h : w.heap[g]? = some (.cells cs t (0, 0))) : w.frozen? ⟨g, 0, none⟩ = false ∧ w.frozen? ⟨g, 1, none⟩ = false ∧ w.frozen? ⟨g, 2, none⟩ = false ∧ w.frozen? ⟨g, 3, none⟩ = false ∧ w.frozen? ⟨g, 4, none⟩ = false ∧ w.frozen? ⟨g, 5, none⟩ = false :=
  ⟨frozen_of_row _ _ 0 _ _ h, frozen_of_row _ _ 1 _ _ h, frozen_of_row _ _ 2 _ _ h, frozen_of_row _ _ 3 _ _ h, frozen_of_row _ _ 4 _ _ h, frozen_of_row _ _ 5 _ _ h⟩
/-- Six cells of a view laid into its box. -/
def layV (w : World) (g : Nat) (a b c d e f : Value) : World := (((((w.setCell ⟨g, 0, none⟩ a).setCell ⟨g, 1, none⟩ b).setCell ⟨g, 2, none⟩ c).setCell ⟨g, 3, none⟩ d).setCell ⟨g, 4, none⟩ e).setCell ⟨g, 5, none⟩ f
theorem layV_only (w : World) (g : Nat) (a b c d e f : Value) : Only g w (layV w g a b c d e f) :=
  (((((Only.set g 0 a w).trans (Only.set g 1 b _)).trans (Only.set g 2 c _)).trans (Only.set g 3 d _)).trans (Only.set g 4 e _)).trans (Only.set g 5 f _)
theorem layV_row {w : World} {g : Nat} {t : TypeId} {a b c d e f a0 b0 c0 d0 e0 f0 : Value} (h : w.heap[g]? = some (.cells #[a0, b0, c0, d0, e0, f0] t (0, 0))) : (layV w g a b c d e f).heap[g]? = some (.cells #[a, b, c, d, e, f] t (0, 0)) := by
  unfold layV
  have h1 := heap_setCell_same w g 0 _ _ a h
  have h2 := heap_setCell_same _ g 1 _ _ b h1
  have h3 := heap_setCell_same _ g 2 _ _ c h2
  have h4 := heap_setCell_same _ g 3 _ _ d h3
  have h5 := heap_setCell_same _ g 4 _ _ e h4
  have h6 := heap_setCell_same _ g 5 _ _ f h5
  exact h6
theorem layV_else {w : World} {g h j : Nat} {a b c d e f u : Value} (hne : h ≠ g) (hc : w.cell? ⟨h, j, none⟩ = some u) : (layV w g a b c d e f).cell? ⟨h, j, none⟩ = some u := by
  rw [(layV_only w g a b c d e f).cell (p := ⟨h, j, none⟩) hne]; exact hc
/-- A view under way to be copied: so many kinds are. -/
structure Cvw (w wz : World) (G : Nat) (V : Vw) (A : Va) (gr gb j : Nat) : Prop where
  g0 : w.heap.size + 1 < G
  rg : wz.heap[G]? = some (.cells #[.int .i64 V.base, .int .i64 V.pgs, .slice A.ka A.kn A.kc, .slice A.ra A.rn A.rc, .slice A.sa A.sn A.sc, .slice A.ba A.bn A.bc] 27 (0, 0))
  r0 : wz.heap[w.heap.size + 1]? = some (.cells zV 27 (0, 0))
  cp : Cpy wz w.heap.size ⟨V.base, V.pgs, V.ks.take j, V.rs, V.ts, V.bs⟩ A gr gb
  bw : Below w.heap.size w wz
theorem Cvw.keep {w wz wy : World} {G : Nat} {V : Vw} {A : Va} {gr gb j : Nat} (h : Cvw w wz G V A gr gb j) (b : Bl wz wy) : Cvw w wy G V A gr gb j :=
  ⟨h.g0, b.row h.rg, b.row h.r0, h.cp.keep b, h.bw.trans (Below.mono b h.bw.size)⟩
/-- Blocks of the kinds of a copied view are others than its boxes. -/
theorem cvw_new {w w3 wz : World} {G : Nat} {V : Vw} {rn sn bn rc1 sc1 bc1 gr gb : Nat} {sa : Option Addr} (hG : w.heap.size + 1 < G) (on : ∀ (g : Nat) (c : Array Value) (t : TypeId), w3.heap[g]? = some (.cells c t (0, 0)) → t ≠ 27 → wz.heap[g]? = some (.cells c t (0, 0)))
    (rg : wz.heap[G]? = some (.cells #[.int .i64 V.base, .int .i64 V.pgs, .slice none 0 0, .slice (some ⟨gr, 0, none⟩) rn rc1, .slice sa sn sc1, .slice (some ⟨gb, 0, none⟩) bn bc1] 27 (0, 0))) (r0 : wz.heap[w.heap.size + 1]? = some (.cells zV 27 (0, 0))) (bw : Below w.heap.size w wz)
    (h1 : V.rs.length = rn) (h2 : V.ts.length = sn) (h3 : V.bs.length = bn) (o1 : Ow w3 w.heap.size (some ⟨gr, 0, none⟩) V.rs rc1) (o2 : Told w3 w.heap.size (.slice sa sn sc1) V.ts) (o3 : OwnsB w3 w.heap.size (some ⟨gb, 0, none⟩) V.bs bc1) :
    Cvw w wz G V ⟨none, some ⟨gr, 0, none⟩, sa, some ⟨gb, 0, none⟩, 0, rn, sn, bn, 0, rc1, sc1, bc1⟩ gr gb 0 := by
  refine ⟨hG, rg, r0, ⟨rfl, rfl, h1, h2, h3, rfl, o1.same (fun g o hg ho => ?_), o2.same (fun g c t hg ht => on g c t hg ?_), o3.same (fun g o hg ho => ?_), Kow.nil _ _⟩, bw⟩
  · obtain ⟨c, hc⟩ := o1.kind g hg
    rw [ho] at hc; cases hc
    exact on g _ _ ho (by decide)
  · rcases ht with rfl | rfl <;> decide
  · obtain ⟨_, c, hc⟩ := o3.kind g hg
    rw [ho] at hc; cases hc
    exact on g _ _ ho (by decide)
/-- A kind more. -/
theorem Kow.more {w : World} {B : Nat} (hB : B ≤ w.heap.size) {a : Option Addr} {ks : List Kn} {n c : Nat} (h : Kow w B a ks c) (hl : ks.length = n) (s : Int) (l : List Int) (la : Option Addr) (ln lc : Nat) (hln : l.length = ln) (ho : OwnsI w B la l lc) (hn : n ≤ 1000000) :
    ∃ a' c' w', (Builtin.append_ #[22, 22] 22 #[.slice a n c, .slice (some ⟨w.heap.size, 0, none⟩) 1 1]).run Tryd.prog (w.alloc (.cells #[.int .i64 s, .slice la ln lc] 53)) = .ok (.slice a' (n + 1) c') w' ∧ Kow w' B a' (ks ++ [⟨s, l⟩]) c' ∧ (∀ (g : Nat) (cu : Array Value) (t : TypeId), w.heap[g]? = some (.cells cu t (0, 0)) → t ≠ 53 → w'.heap[g]? = some (.cells cu t (0, 0))) ∧ Below B w w' := by
  subst hl hln
  have b : Bl w (w.alloc (.cells #[.int .i64 s, .slice la l.length lc] 53)) := (Bl.refl w).alloc _
  obtain ⟨xs, e1, e2, e3⟩ := h
  have hx : xs.length = ks.length := by rw [← e1, List.length_map]
  have rn := Go.heap_alloc_new w (.cells #[.int .i64 s, .slice la l.length lc] 53)
  obtain ⟨a', c', w', hr, k1, k2, _⟩ := appK _ B (Nat.le_trans hB (Below.size b)) a xs c (e2.keep b) w.heap.size 1 ⟨s, la, lc, l⟩ (cell_of_row _ _ 0 _ _ _ rn) (cell_of_row _ _ 1 _ _ _ rn) (by omega)
  rw [hx] at hr
  have hk : ∀ g, ob a = some g → B ≤ g ∧ ∃ cur, (w.alloc (.cells #[.int .i64 s, .slice la l.length lc] 53)).heap[g]? = some (.cells cur 53 (0, 0)) := row_kind (e2.keep b)
  have tu : Tu (fun k => ob a = some k) _ w' := Tu.grown k2 (fun g hg => hg)
  have st : ∀ (g : Nat) (cu : Array Value) (t : TypeId), (w.alloc (.cells #[.int .i64 s, .slice la l.length lc] 53)).heap[g]? = some (.cells cu t (0, 0)) → t ≠ 53 → w'.heap[g]? = some (.cells cu t (0, 0)) := fun g cu t hg ht => tu.block g _ hg (fun e => by
    obtain ⟨_, cur, hc⟩ := hk g e
    exact kind_ne hg hc ht rfl)
  refine ⟨a', c', w', hr, ⟨xs ++ [⟨s, la, lc, l⟩], by rw [List.map_append, e1]; rfl, k1, fun x hxm => ?_⟩, fun g cu t hg ht => st g cu t (b.row hg) ht, Below.trans (Below.alloc (Below.refl _ w) hB _) (tu.below (fun i e => (hk i e).1) (Nat.le_trans hB (Below.size b)))⟩
  have key : ∀ x : Kd, OwnsI w B x.a x.l x.c → OwnsI w' B x.a x.l x.c := fun x hx => by
    refine (hx.keep b).same (fun g o hg ho => ?_)
    obtain ⟨cur, hc⟩ := (hx.keep b).kind g hg
    rw [ho] at hc; cases hc
    exact st g _ _ ho (by decide)
  rcases List.mem_append.1 hxm with q | q
  · exact key x (e3 x q)
  · obtain rfl : x = ⟨s, la, lc, l⟩ := by simpa using q
    exact key _ ho
/-- A kind more in a view under way. -/
theorem Cvw.more {w wz wy : World} {G : Nat} {V : Vw} {ka ra sa ba ka' : Option Addr} {kn rn sn bn kc rc sc bc kc' gr gb j : Nat} {x : Kn} (h : Cvw w wz G V ⟨ka, ra, sa, ba, kn, rn, sn, bn, kc, rc, sc, bc⟩ gr gb j) (hj : V.ks.take (j + 1) = V.ks.take j ++ [x]) (ho : Kow wy w.heap.size ka' (V.ks.take j ++ [x]) kc') (st : ∀ (g : Nat) (cu : Array Value) (t : TypeId), wz.heap[g]? = some (.cells cu t (0, 0)) → t ≠ 53 → t ≠ 3 → wy.heap[g]? = some (.cells cu t (0, 0))) (st3 : ∀ (g : Nat) (cu : Array Value), wz.heap[g]? = some (.cells cu 3 (0, 0)) → wy.heap[g]? = some (.cells cu 3 (0, 0))) (b : Below w.heap.size w wy) :
    Cvw w (wy.setCell ⟨G, 2, none⟩ (.slice ka' (kn + 1) kc')) G V ⟨ka', ra, sa, ba, kn + 1, rn, sn, bn, kc', rc, sc, bc⟩ gr gb (j + 1) := by
  have rg := st G _ _ h.rg (by decide) (by decide)
  have r0 := st _ _ _ h.r0 (by decide) (by decide)
  have on := Only.set G 2 (.slice ka' (kn + 1) kc') wy
  have key : ∀ (g : Nat) (cu : Array Value) (t : TypeId), wz.heap[g]? = some (.cells cu t (0, 0)) → t ≠ 53 → t ≠ 27 → (wy.setCell ⟨G, 2, none⟩ (.slice ka' (kn + 1) kc')).heap[g]? = some (.cells cu t (0, 0)) := fun g cu t hg h1 h2 => by
    have q : wy.heap[g]? = some (.cells cu t (0, 0)) := by
      by_cases e : t = 3
      · subst e; exact st3 g cu hg
      · exact st g cu t hg h1 e
    rw [on.block g (kind_ne q rg h2)]; exact q
  have hc := h.cp
  refine ⟨h.g0, heap_setCell_same wy G 2 _ _ _ rg, by rw [on.block _ (Nat.ne_of_lt h.g0)]; exact r0, ⟨hc.ra, hc.ba, hc.rn, hc.sn, hc.bn, ?_, hc.rows.same (fun g o hg ho => ?_), hc.spans.same (fun g cu t hg ht => key g cu t hg ?_ ?_), hc.bytes.same (fun g o hg ho => ?_), ?_⟩, b.trans (on.below (by have := h.g0; omega))⟩
  · have := hc.kn
    show (V.ks.take (j + 1)).length = kn + 1
    rw [hj, List.length_append]
    have e : (V.ks.take j).length = kn := this
    rw [e]; rfl
  · obtain ⟨c, hc2⟩ := hc.rows.kind g hg
    rw [ho] at hc2; cases hc2
    exact key g _ _ ho (by decide) (by decide)
  · rcases ht with rfl | rfl <;> decide
  · rcases ht with rfl | rfl <;> decide
  · obtain ⟨_, c, hc2⟩ := hc.bytes.kind g hg
    rw [ho] at hc2; cases hc2
    exact key g _ _ ho (by decide) (by decide)
  · show Kow _ _ _ (V.ks.take (j + 1)) _
    rw [hj]
    exact ho.same (fun g cu t hg ht => by rw [on.block g (kind_ne hg rg (by rcases ht with rfl | rfl <;> decide))]; exact hg)
/-- Boxes turned: a view of one's own stays. -/
theorem Cpy.boxed {w w' : World} {B : Nat} {V : Vw} {A : Va} {gr gb : Nat} (h : Cpy w B V A gr gb) (on : ∀ (g : Nat) (c : Array Value) (t : TypeId), w.heap[g]? = some (.cells c t (0, 0)) → t ≠ 27 → w'.heap[g]? = some (.cells c t (0, 0))) : Cpy w' B V A gr gb := by
  refine ⟨h.ra, h.ba, h.rn, h.sn, h.bn, h.kn, h.rows.same (fun g o hg ho => ?_), h.spans.same (fun g c t hg ht => on g c t hg ?_), h.bytes.same (fun g o hg ho => ?_), h.kinds.same (fun g c t hg ht => on g c t hg ?_)⟩
  · obtain ⟨c, hc⟩ := h.rows.kind g hg
    rw [ho] at hc; cases hc
    exact on g _ _ ho (by decide)
  · rcases ht with rfl | rfl <;> decide
  · obtain ⟨_, c, hc⟩ := h.bytes.kind g hg
    rw [ho] at hc; cases hc
    exact on g _ _ ho (by decide)
  · rcases ht with rfl | rfl <;> decide
theorem ent_kCopy : (match Tryd.prog.funcs[24]? with | some fn => !(fn.name == "runtime.NumGoroutine") && !fn.body.isNone | none => false) = true := by kernel_rfl
end Go.Proofs.YtebmegghojiegaaDoor
