/- Layer 15: KaA again -/
import Derived.Test.YtgdjlopnhecmjaaGreatDoorGzAL
import Derived.Test.YtgdjlopnhecmjaaGreatDoorGzAM
import Derived.Test.YtgdjlopnhecmjaaGreatDoorGzAE
import Derived.Test.YtgdjlopnhecmjaaGreatDoorGzAN
import Derived.Test.YtgdjlopnhecmjaaGreatDoorGzAJ
import Derived.BigQuiet
namespace Go.Proofs.YtgdjlopnhecmjaaGreatDoor
open Go.RowKit
set_option linter.unusedVariables false
set_option maxRecDepth 4000
/-- A span of the code's, in blocks of the set S. -/
def SpS (w : World) (S : Nat → Prop) (p : Nat) (s : Sg) : Prop := ∃ b g, SpanAt w p b g (s.pg : Int) (s.cl : Int) (s.bts : Int) s.f ∧ S p ∧ S b ∧ S g
theorem old_eq {w w' : World} {S : Nat → Prop} {k : Nat} (he : ∀ (i : Nat) (o : Obj), w.heap[i]? = some o → S i → w'.heap[i]? = some o) (hk : k < w.heap.size) (hS : S k) : w'.heap[k]? = w.heap[k]? := by
  rw [Array.getElem?_eq_getElem hk]; exact he k _ (Array.getElem?_eq_getElem hk) hS
theorem SpS.same {w w' : World} {S : Nat → Prop} {p : Nat} {s : Sg} (h : SpS w S p s) (he : ∀ (i : Nat) (o : Obj), w.heap[i]? = some o → S i → w'.heap[i]? = some o) (hs : w.heap.size ≤ w'.heap.size) : SpS w' S p s := by
  obtain ⟨b, g, h0, h1, h2, h3⟩ := h
  exact ⟨b, g, h0.blocks (old_eq he h0.lt h1) (old_eq he h0.set.hb h2) (old_eq he h0.set.hg h3) hs, h1, h2, h3⟩
theorem SpS.mono {w : World} {S T : Nat → Prop} {p : Nat} {s : Sg} (h : SpS w S p s) (he : ∀ i, i < w.heap.size → S i → T i) : SpS w T p s := by
  obtain ⟨b, g, h0, h1, h2, h3⟩ := h
  exact ⟨b, g, h0, he _ h0.lt h1, he _ h0.set.hb h2, he _ h0.set.hg h3⟩
theorem Sg.Ok.rt {W P a0 : Nat} {m : List Sg} {s : Sg} (hf : Fit W P a0 m) (hP : P ≤ 4096) (hs : s ∈ m) : Rt (s.pg : Int) (s.cl : Int) (s.bts : Int) := by
  obtain ⟨h, h1, h2⟩ := hf.ok s hs
  exact ⟨by omega, by have := h.c7; omega, fun e => by have := h.sm (by omega); omega, fun e => h.lg (by omega), by omega, by have : s.k = pgsN (s.cl : Int) (s.bts : Int) := rfl; omega⟩

def numV (x : Nat) : Value := .int .i64 (x : Nat)
theorem nums_one (ps : List Nat) : ∀ v ∈ ps.map numV, v.oneCell' = true := fun v hv => by obtain ⟨p, _, rfl⟩ := List.mem_map.1 hv; rfl

/-- The cache: its box cb, its free pages (φ: which are taken), its spans, what workers keep (K). L: to which part a block belongs. -/
structure Cm (w : World) (L : Nat → Nat) (cb fb hb : Nat) (a : Option Addr) (cap : Nat) (ps : List Nat) (sh : List Value) (P W : Nat) (φ : Nat → Bool) (m : List Sg) (K : Nat → Nat → List Nat) : Prop where
  tab : Tabs w
  l0 : L 0 = 0
  l1 : L 1 = 0
  box : w.heap[cb]? = some (.cells #[.pointer (some ⟨fb, 0, none⟩), .slice a m.length cap, .slice (some ⟨hb, 0, none⟩) W W] 189 (0, 0))
  lb : L cb = 1
  free : IsR w (fun k => L k = 2) fb P φ
  row : VAt w (fun k => L k = 3) 190 a (ps.map ptrV) cap
  plen : ps.length = m.length
  spans : ∀ i (h : i < m.length), SpS w (fun k => L k = 5 + 2 * m[i].pg) (ps[i]'(by rw [plen]; exact h)) m[i]
  hrow : w.heap[hb]? = some (.cells sh.toArray 211 (0, 0))
  lh : L hb = 4
  shl : sh.length = W * 7
  shelf : ∀ v c, v < W → c < 7 → ∃ a cap, sh[v * 7 + c]? = some (.slice a (K v c).length cap) ∧ VAt w (fun k => L k = 6 + 2 * (v * 7 + c)) 3 a ((K v c).map numV) cap
/-- How many pages and workers there may be, and that spans lie in the pages. -/
structure Okc (P W : Nat) (m : List Sg) : Prop where
  p0 : 1 ≤ P
  p1 : P ≤ 4096
  w0 : 1 ≤ W
  w1 : W ≤ 8
  fit : Fit W P 0 m
/-- A block's part stays. -/
def Ext (w : World) (L L' : Nat → Nat) : Prop := ∀ k, k < w.heap.size → L' k = L k
theorem Ext.refl (w : World) (L : Nat → Nat) : Ext w L L := fun _ _ => rfl
theorem Ext.trans {w w' : World} {L L' L'' : Nat → Nat} (h : Ext w L L') (h' : Ext w' L' L'') (hs : w.heap.size ≤ w'.heap.size) : Ext w L L'' := fun k hk => (h' k (by omega)).trans (h k hk)
/-- New blocks belong to the part l. -/
def lab (L : Nat → Nat) (n l : Nat) : Nat → Nat := fun k => if k < n then L k else l
theorem lab_ext (w : World) (L : Nat → Nat) (l : Nat) : Ext w L (lab L w.heap.size l) := fun k hk => if_pos hk
theorem lab_new {L : Nat → Nat} {n l k : Nat} (h : n ≤ k) : lab L n l k = l := if_neg (by omega)
theorem Tabs.tu {S : Nat → Prop} {w w' : World} (h : Tabs w) (ht : Tu S w w') (h0 : ¬ S 0) (h1 : ¬ S 1) : Tabs w' :=
  ⟨⟨by have := h.1.1; have := ht.size; omega, fun j hj => by rw [ht.cell h0 h.1.1]; exact h.1.2 j hj⟩, ⟨by have := h.2.1; have := ht.size; omega, fun j hj => by rw [ht.cell h1 h.2.1]; exact h.2.2 j hj⟩⟩
/-- What stays where just the part l turns. -/
theorem ckeepL {w w' : World} {L L' : Nat → Nat} {l l2 : Nat} (hL : Ext w L L') (ht : Tu (fun k => L k = l ∨ w.heap.size ≤ k) w w') (hne : l2 ≠ l) : ∀ (i : Nat) (o : Obj), w.heap[i]? = some o → L' i = l2 → w'.heap[i]? = some o := fun i o ho hi =>
  ht.block i o ho (by have hlt := (Array.getElem?_eq_some_iff.1 ho).1; rw [hL i hlt] at hi; rintro (h | h) <;> omega)
structure Stay (w w' : World) (L' : Nat → Nat) (cb fb hb : Nat) (a : Option Addr) (cap : Nat) (ps : List Nat) (sh : List Value) (P W : Nat) (φ : Nat → Bool) (m : List Sg) (K : Nat → Nat → List Nat) (l : Nat) : Prop where
  tab : Tabs w'
  l0 : L' 0 = 0
  l1 : L' 1 = 0
  box : l ≠ 1 → w'.heap[cb]? = some (.cells #[.pointer (some ⟨fb, 0, none⟩), .slice a m.length cap, .slice (some ⟨hb, 0, none⟩) W W] 189 (0, 0))
  lb : L' cb = 1
  free : l ≠ 2 → IsR w' (fun k => L' k = 2) fb P φ
  row : l ≠ 3 → VAt w' (fun k => L' k = 3) 190 a (ps.map ptrV) cap
  spans : ∀ i (h : i < m.length) (h' : i < ps.length), l ≠ 5 + 2 * m[i].pg → SpS w' (fun k => L' k = 5 + 2 * m[i].pg) ps[i] m[i]
  hrow : l ≠ 4 → w'.heap[hb]? = some (.cells sh.toArray 211 (0, 0))
  lh : L' hb = 4
  shelf : ∀ v c, v < W → c < 7 → l ≠ 6 + 2 * (v * 7 + c) → ∃ a cap, sh[v * 7 + c]? = some (.slice a (K v c).length cap) ∧ VAt w' (fun k => L' k = 6 + 2 * (v * 7 + c)) 3 a ((K v c).map numV) cap
theorem Cm.stay {w w' : World} {L L' : Nat → Nat} {cb fb hb : Nat} {a : Option Addr} {cap : Nat} {ps : List Nat} {sh : List Value} {P W : Nat} {φ : Nat → Bool} {m : List Sg} {K : Nat → Nat → List Nat} (h : Cm w L cb fb hb a cap ps sh P W φ m K) (l : Nat) (hl : l ≠ 0) (hL : Ext w L L') (ht : Tu (fun k => L k = l ∨ w.heap.size ≤ k) w w') :
    Stay w w' L' cb fb hb a cap ps sh P W φ m K l := by
  have t0 := h.tab.1.1
  have t1 := h.tab.2.1
  have hm : ∀ l2 i, i < w.heap.size → L i = l2 → L' i = l2 := fun l2 i hi e => (hL i hi).trans e
  have z0 := h.l0
  have z1 := h.l1
  refine ⟨h.tab.tu ht (by rintro (e | e) <;> omega) (by rintro (e | e) <;> omega), hm _ _ t0 h.l0, hm _ _ t1 h.l1, fun e => ckeepL hL ht (fun k => e k.symm) cb _ h.box (hm _ _ (hlt h.box) h.lb), hm _ _ (hlt h.box) h.lb, fun e => (h.free.mono (hm 2)).same (ckeepL hL ht (fun k => e k.symm)), fun e => (h.row.mono (hm 3)).same (ckeepL hL ht (fun k => e k.symm)), fun i hi hi' e => ((h.spans i hi).mono (hm _)).same (ckeepL hL ht (fun k => e k.symm)) ht.size, fun e => ckeepL hL ht (fun k => e k.symm) hb _ h.hrow (hm _ _ (hlt h.hrow) h.lh), hm _ _ (hlt h.hrow) h.lh, fun v c hv hc e => ?_⟩
  obtain ⟨a', cap', h1, h2⟩ := h.shelf v c hv hc
  exact ⟨a', cap', h1, (h2.mono (hm _)).same (ckeepL hL ht (fun k => e k.symm))⟩
/-- Nothing of the cache turned. -/
theorem Cm.keep {w w' : World} {L L' : Nat → Nat} {cb fb hb : Nat} {a : Option Addr} {cap : Nat} {ps : List Nat} {sh : List Value} {P W : Nat} {φ : Nat → Bool} {m : List Sg} {K : Nat → Nat → List Nat} (h : Cm w L cb fb hb a cap ps sh P W φ m K) (hL : Ext w L L') (hb' : Below w.heap.size w w') : Cm w' L' cb fb hb a cap ps sh P W φ m K := by
  have hm : ∀ l2 i, i < w.heap.size → L i = l2 → L' i = l2 := fun l2 i hi e => (hL i hi).trans e
  refine ⟨h.tab.keep hb', hm _ _ h.tab.1.1 h.l0, hm _ _ h.tab.2.1 h.l1, ?_, hm _ _ (hlt h.box) h.lb, (h.free.mono (hm 2)).keep hb', (h.row.mono (hm 3)).keep hb', h.plen, fun i hi => ((h.spans i hi).mono (hm _)).same (old_below hb') hb'.size, ?_, hm _ _ (hlt h.hrow) h.lh, h.shl, fun v c hv hc => ?_⟩
  · rw [hb'.block cb (hlt h.box)]; exact h.box
  · rw [hb'.block hb (hlt h.hrow)]; exact h.hrow
  · obtain ⟨a', cap', h1, h2⟩ := h.shelf v c hv hc
    exact ⟨a', cap', h1, (h2.mono (hm _)).keep hb'⟩
/-- The free pages turned. -/
theorem Cm.freed {w w' : World} {L L' : Nat → Nat} {cb fb hb : Nat} {a : Option Addr} {cap : Nat} {ps : List Nat} {sh : List Value} {P W : Nat} {φ φ' : Nat → Bool} {m : List Sg} {K : Nat → Nat → List Nat} (h : Cm w L cb fb hb a cap ps sh P W φ m K) (hL : Ext w L L') (ht : Tu (fun k => L k = 2 ∨ w.heap.size ≤ k) w w') (hr : IsR w' (fun k => L' k = 2) fb P φ') : Cm w' L' cb fb hb a cap ps sh P W φ' m K := by
  have s := h.stay 2 (by decide) hL ht
  exact ⟨s.tab, s.l0, s.l1, s.box (by decide), s.lb, hr, s.row (by decide), h.plen, fun i hi => s.spans i hi _ (by omega), s.hrow (by decide), s.lh, h.shl, fun v c hv hc => s.shelf v c hv hc (by omega)⟩
/-- A span's slots turned. -/
theorem Cm.spanned {w w' : World} {L L' : Nat → Nat} {cb fb hb : Nat} {a : Option Addr} {cap : Nat} {ps : List Nat} {sh : List Value} {P W : Nat} {φ : Nat → Bool} {m : List Sg} {K : Nat → Nat → List Nat} (h : Cm w L cb fb hb a cap ps sh P W φ m K) {a0 : Nat} (hf : Fit W P a0 m) (i : Nat) (hi : i < m.length) (hi' : i < ps.length) (st : List Nat) (hL : Ext w L L') (ht : Tu (fun k => L k = 5 + 2 * m[i].pg ∨ w.heap.size ≤ k) w w')
    (hs : SpS w' (fun k => L' k = 5 + 2 * m[i].pg) ps[i] { m[i] with st := st }) : Cm w' L' cb fb hb a cap ps sh P W φ (m.set i { m[i] with st := st }) K := by
  have s := h.stay (5 + 2 * m[i].pg) (by omega) hL ht
  refine ⟨s.tab, s.l0, s.l1, by rw [List.length_set]; exact s.box (by omega), s.lb, s.free (by omega), s.row (by omega), by rw [List.length_set]; exact h.plen, fun j hj => ?_, s.hrow (by omega), s.lh, h.shl, fun v c hv hc => s.shelf v c hv hc (by omega)⟩
  rw [List.length_set] at hj
  rw [List.getElem_set]
  by_cases e : i = j
  · subst e; simp only [if_true]; exact hs
  · simp only [if_neg e]
    refine s.spans j hj _ ?_
    have ok1 := (hf.ok _ (List.getElem_mem hj)).1.facts
    have ok2 := (hf.ok _ (List.getElem_mem hi)).1.facts
    rcases Nat.lt_or_gt_of_ne e with k | k
    · have := (hf.split hj).2 m[i] (by rw [List.mem_iff_getElem]; exact ⟨i, by simp; omega, by simp⟩)
      omega
    · have := (hf.split hi).2 m[j] (by rw [List.mem_iff_getElem]; exact ⟨j, by simp; omega, by simp⟩)
      omega
theorem Cm.cell0 {w : World} {L : Nat → Nat} {cb fb hb : Nat} {a : Option Addr} {cap : Nat} {ps : List Nat} {sh : List Value} {P W : Nat} {φ : Nat → Bool} {m : List Sg} {K : Nat → Nat → List Nat} (h : Cm w L cb fb hb a cap ps sh P W φ m K) : w.cell? ⟨cb, 0, none⟩ = some (.pointer (some ⟨fb, 0, none⟩)) := cell_of_row _ _ 0 _ _ _ h.box
theorem Cm.cell1 {w : World} {L : Nat → Nat} {cb fb hb : Nat} {a : Option Addr} {cap : Nat} {ps : List Nat} {sh : List Value} {P W : Nat} {φ : Nat → Bool} {m : List Sg} {K : Nat → Nat → List Nat} (h : Cm w L cb fb hb a cap ps sh P W φ m K) : w.cell? ⟨cb, 1, none⟩ = some (.slice a m.length cap) := cell_of_row _ _ 1 _ _ _ h.box
theorem Cm.cell2 {w : World} {L : Nat → Nat} {cb fb hb : Nat} {a : Option Addr} {cap : Nat} {ps : List Nat} {sh : List Value} {P W : Nat} {φ : Nat → Bool} {m : List Sg} {K : Nat → Nat → List Nat} (h : Cm w L cb fb hb a cap ps sh P W φ m K) : w.cell? ⟨cb, 2, none⟩ = some (.slice (some ⟨hb, 0, none⟩) W W) := cell_of_row _ _ 2 _ _ _ h.box
theorem Cm.thawed {w : World} {L : Nat → Nat} {cb fb hb : Nat} {a : Option Addr} {cap : Nat} {ps : List Nat} {sh : List Value} {P W : Nat} {φ : Nat → Bool} {m : List Sg} {K : Nat → Nat → List Nat} (h : Cm w L cb fb hb a cap ps sh P W φ m K) (j : Nat) : w.frozen? ⟨cb, j, none⟩ = false := frozen_of_row _ _ j _ _ h.box
/-- The span i: where its pointer lies. -/
theorem Cm.at {w : World} {L : Nat → Nat} {cb fb hb : Nat} {a : Option Addr} {cap : Nat} {ps : List Nat} {sh : List Value} {P W : Nat} {φ : Nat → Bool} {m : List Sg} {K : Nat → Nat → List Nat} (h : Cm w L cb fb hb a cap ps sh P W φ m K) (i : Nat) (hi : i < m.length) : ∃ g p, a = some ⟨g, 0, none⟩ ∧ L g = 3 ∧ g < w.heap.size ∧ w.cell? ⟨g, i, none⟩ = some (.pointer (some ⟨p, 0, none⟩)) ∧ ps[i]? = some p ∧ SpS w (fun k => L k = 5 + 2 * m[i].pg) p m[i] := by
  have hp : i < ps.length := by rw [h.plen]; exact hi
  obtain ⟨g, h1, h2, h3, h4, _⟩ := h.row.at i (by simpa using hp)
  exact ⟨g, ps[i], h1, h2, h3, by rw [h4]; simp [ptrV], List.getElem?_eq_getElem hp, h.spans i hi⟩
theorem Cm.drew {w : World} {L : Nat → Nat} {cb fb hb : Nat} {a : Option Addr} {cap : Nat} {ps : List Nat} {sh : List Value} {P W : Nat} {φ : Nat → Bool} {m : List Sg} {K : Nat → Nat → List Nat} (h : Cm w L cb fb hb a cap ps sh P W φ m K) (n : Nat) : Cm (w.drewN n) L cb fb hb a cap ps sh P W φ m K := h.keep (Ext.refl _ _) ⟨rfl, rfl, rfl, Nat.le_refl _, fun _ _ => rfl⟩
/-- What a worker keeps of a class: where it lies. -/
theorem Cm.kept {w : World} {L : Nat → Nat} {cb fb hb : Nat} {a : Option Addr} {cap : Nat} {ps : List Nat} {sh : List Value} {P W : Nat} {φ : Nat → Bool} {m : List Sg} {K : Nat → Nat → List Nat} (h : Cm w L cb fb hb a cap ps sh P W φ m K) (v c : Nat) (hv : v < W) (hc : c < 7) : ∃ ak ck, w.cell? ⟨hb, v * 7 + c, none⟩ = some (.slice ak (K v c).length ck) ∧ w.frozen? ⟨hb, v * 7 + c, none⟩ = false ∧ VAt w (fun k => L k = 6 + 2 * (v * 7 + c)) 3 ak ((K v c).map numV) ck := by
  obtain ⟨ak, ck, h1, h2⟩ := h.shelf v c hv hc
  exact ⟨ak, ck, by rw [cell_of_row _ _ _ _ _ _ h.hrow]; simpa using h1, frozen_of_row _ _ _ _ _ h.hrow, h2⟩
end Go.Proofs.YtgdjlopnhecmjaaGreatDoor

/- Layer 15: KaB again -/
namespace Go.Proofs.YtgdjlopnhecmjaaGreatDoor
open Go.RowKit
set_option linter.unusedVariables false
set_option maxRecDepth 4000
theorem endp_any (p : Nat) (pg cl bts : Int) (w : World) (h : Bx w p pg cl bts) (hT : TabC w) (r : Rt pg cl bts) (E : Nat) (hE : pg + (pgsN cl bts : Int) = (E : Int)) :
    Calls Tryz.prog 188 #[.pointer (some ⟨p, 0, none⟩)] w fun e w' => e = .returned (.int .i64 (E : Nat)) ∧ w = w' := by
  have H : Hid (Bx w p pg cl bts) := h
  have HT : Hid (TabC w) := hT
  have h0 := r.p0
  have h1 := r.p1
  have c0 := r.c0
  have c7 := r.c7
  obtain ⟨k, hk⟩ : ∃ k, pgsN cl bts = k := ⟨_, rfl⟩
  have HK : Hid (pgsN cl bts = k) := hk
  rw [hk] at hE h1
  clear h hT r hk
  go_enter Tryz.func188, Tryz.ntmps188
  go_wp2_with (first
    | (go_at_call 178; refine (page_any p pg cl bts _ H.out).mono ?_; rintro e w' ⟨rfl, rfl⟩)
    | (go_at_call 179; refine (pages_q p pg cl bts k _ H.out HT.out c0 c7 HK.out).mono ?_; rintro e w' ⟨rfl, rfl⟩))
  go_ret
  exact ⟨rfl, rfl⟩
set_option maxHeartbeats 1000000 in
theorem kfind1_any (q1 q2 cb g i p : Nat) (x : Int) (pg cl bts : Int) (E : Nat) (len cap : Nat) (w : World) (h1 : w.cell? ⟨q1, 0, none⟩ = some (.int .i64 x)) (h2 : w.cell? ⟨q2, 0, none⟩ = some (.pointer (some ⟨cb, 0, none⟩)))
    (h3 : w.cell? ⟨cb, 1, none⟩ = some (.slice (some ⟨g, 0, none⟩) len cap)) (h4 : w.cell? ⟨g, i, none⟩ = some (.pointer (some ⟨p, 0, none⟩))) (hB : Bx w p pg cl bts) (hT : TabC w) (r : Rt pg cl bts) (hE : pg + (pgsN cl bts : Int) = (E : Int)) (hE1 : E ≤ 4096)
    (hi : i < len) (hl : len ≤ 100000) :
    Calls Tryz.prog 208 #[.int .i64 (i : Nat), .pointer (some ⟨q1, 0, none⟩), .pointer (some ⟨q2, 0, none⟩)] w fun e w' => e = .returned (.bool (decide (x < 256 * (E : Int)))) ∧ Below w.heap.size w w' := by
  have hi' : (i : Int) < (len : Int) := by omega
  have hi0 : (0 : Int) ≤ (i : Int) := by omega
  have H : Hid (∀ k, Bx (w.drewN k) p pg cl bts) := fun k => hB.drewN k
  have HT : Hid (TabC w) := hT
  have HR : Hid (Rt pg cl bts) := r
  have HE : Hid (pg + (pgsN cl bts : Int) = (E : Int)) := hE
  have BQ : Hid (∀ k, Below w.heap.size w (w.drewN k)) := fun k => ⟨rfl, rfl, rfl, Nat.le_refl _, fun _ _ => rfl⟩
  clear hB hT r hE
  go_enter Tryz.func208, Tryz.ntmps208
  go_wp2_with fail
  go_quiet ((go_at_call 188; exact Calls.quiet_of_same ((endp_any p pg cl bts _ (H.out _) HT.out HR.out E HE.out).mono (fun _ _ h => ⟨h.1, h.2.symm⟩))))
  go_wp2
  go_ret
  exact ⟨by congr 2; simp; omega, BQ.out _⟩
set_option maxHeartbeats 1000000 in
theorem ksearch_any (n q1 q2 : Nat) (pr : Nat → Bool) (w : World) (hn : n ≤ 100000) (hm : ∀ i j, i ≤ j → j < n → pr i = true → pr j = true)
    (hK : ∀ (w' : World) (k : Nat), Below w.heap.size w w' → k < n → Calls Tryz.prog 208 #[.int .i64 (k : Nat), .pointer (some ⟨q1, 0, none⟩), .pointer (some ⟨q2, 0, none⟩)] w' (fun e w'' => e = .returned (.bool (pr k)) ∧ Below w'.heap.size w' w'')) :
    Calls Tryz.prog 207 #[.int .i64 (n : Nat), .func (.func 208) #[] #[.pointer (some ⟨q1, 0, none⟩), .pointer (some ⟨q2, 0, none⟩)]] w fun e w' =>
      ∃ i : Nat, i ≤ n ∧ e = .returned (.int .i64 (i : Nat)) ∧ (∀ k, k < i → pr k = false) ∧ (∀ k, i ≤ k → k < n → pr k = true) ∧ Below w.heap.size w w' := by
  have HM : Hid (∀ i j, i ≤ j → j < n → pr i = true → pr j = true) := hm
  have HK : Hid (∀ (w' : World) (k : Nat), Below w.heap.size w w' → k < n → Calls Tryz.prog 208 #[.int .i64 (k : Nat), .pointer (some ⟨q1, 0, none⟩), .pointer (some ⟨q2, 0, none⟩)] w' (fun e w'' => e = .returned (.bool (pr k)) ∧ Below w'.heap.size w' w'')) := hK
  have B0 : Hid (Below w.heap.size w w) := Below.refl _ _
  clear hm hK
  go_enter Tryz.func207, Tryz.ntmps207
  go_wp2
  go_loopw [5, 6] (fun iv jv wr => ∃ i j : Nat, i ≤ j ∧ j ≤ n ∧ iv = .int .i64 (i : Nat) ∧ jv = .int .i64 (j : Nat) ∧ (∀ k, k < i → pr k = false) ∧ (∀ k, j ≤ k → k < n → pr k = true) ∧ Below w.heap.size w wr) (fun iv jv _ => (intOf jv).toNat - (intOf iv).toNat)
  case atStart => exact ⟨0, n, Nat.zero_le _, Nat.le_refl _, rfl, rfl, fun k hk => by omega, fun k h1 h2 => by omega, B0.out⟩
  case round =>
    obtain ⟨i, j, hij, hjn, rfl, rfl, hA, hB, hb⟩ := hrel
    rename World => wr
    have HA : Hid (∀ k, k < i → pr k = false) := hA
    have HB : Hid (∀ k, j ≤ k → k < n → pr k = true) := hB
    have BB : Hid (Below w.heap.size w wr) := hb
    clear hA hB hb
    by_cases hlt : i < j
    · have hlt' : (i : Int) < (j : Int) := by omega
      obtain ⟨m, hmm⟩ : ∃ m, (i + j) / 2 = m := ⟨_, rfl⟩
      have hm1 : i ≤ m := by omega
      have hm2 : m < j := by omega
      cases hp : pr m
      · have EP : Hid (pr m = false) := hp
        clear hp
        go_wp2_with fail
        rw [show ((i : Int) + (j : Int)) / 2 = ((m : Nat) : Int) from by omega]
        refine (HK.out _ m BB.out (by omega)).mono ?_
        rw [EP.out]
        rintro e w1 ⟨rfl, b1⟩
        have B1 : Hid (Below w.heap.size w w1) := BB.out.trans (b1.mono BB.out.size)
        have NA : Hid (∀ k, k < m + 1 → pr k = false) := fun k hk => by
          cases e : pr k
          · rfl
          · have := HM.out k m (by omega) (by omega) e
            rw [EP.out] at this; cases this
        clear b1 hmm
        go_wp2
        go_roundw
        case rel => exact ⟨m + 1, j, by omega, hjn, by go_num, rfl, NA.out, HB.out, B1.out⟩
        case measure => simp [intOf]; omega
      · have EP : Hid (pr m = true) := hp
        clear hp
        go_wp2_with fail
        rw [show ((i : Int) + (j : Int)) / 2 = ((m : Nat) : Int) from by omega]
        refine (HK.out _ m BB.out (by omega)).mono ?_
        rw [EP.out]
        rintro e w1 ⟨rfl, b1⟩
        have B1 : Hid (Below w.heap.size w w1) := BB.out.trans (b1.mono BB.out.size)
        have NB : Hid (∀ k, m ≤ k → k < n → pr k = true) := fun k h1 h2 => HM.out m k h1 h2 EP.out
        clear b1 hmm
        go_wp2
        go_roundw
        case rel => exact ⟨i, m, by omega, by omega, rfl, rfl, HA.out, NB.out, B1.out⟩
        case measure => simp [intOf]; omega
    · obtain rfl : i = j := by omega
      go_wp2
      go_ret
      exact ⟨i, hjn, rfl, HA.out, HB.out, BB.out⟩

theorem FindM.of {m : List Sg} {x : Int} {i : Nat} (pr : Nat → Bool) (hpr : ∀ k (hk : k < m.length), pr k = decide (x < 256 * ((m[k].pg + m[k].k : Nat) : Int))) (hi : i ≤ m.length) (h1 : ∀ k, k < i → pr k = false) (h2 : ∀ k, i ≤ k → k < m.length → pr k = true) : FindM m x i := by
  refine ⟨hi, fun s hs => ?_, fun s hs => ?_⟩
  · obtain ⟨k, hk, rfl⟩ := List.getElem_of_mem hs
    simp at hk
    have := h1 k (by omega)
    rw [hpr k (by omega)] at this
    have := of_decide_eq_false this
    rw [List.getElem_take]; omega
  · obtain ⟨k, hk, rfl⟩ := List.getElem_of_mem hs
    simp at hk
    have := h2 (i + k) (by omega) (by omega)
    rw [hpr (i + k) (by omega)] at this
    have := of_decide_eq_true this
    rw [List.getElem_drop]; omega
theorem Fit.len {W P : Nat} : ∀ {m : List Sg} {a : Nat}, Fit W P a m → a + m.length ≤ P
  | [], a, h => by have h : a ≤ P := h; simpa using h
  | s :: l, a, h => by have h1 := Fit.len h.2.2; have h2 := h.2.1.facts; have h3 := h.1; simp; omega
set_option maxHeartbeats 1000000 in
theorem kfind_any (L : Nat → Nat) (cb fb hb : Nat) (a : Option Addr) (cap : Nat) (ps : List Nat) (sh : List Value) (P W : Nat) (φ : Nat → Bool) (m : List Sg) (K : Nat → Nat → List Nat) (x : Int) (w : World) (h : Cm w L cb fb hb a cap ps sh P W φ m K) (ho : Okc P W m) :
    Calls Tryz.prog 153 #[.pointer (some ⟨cb, 0, none⟩), .int .i64 x] w fun e w' => ∃ i : Nat, FindM m x i ∧ e = .returned (.int .i64 (i : Nat)) ∧ Below w.heap.size w w' := by
  have hml := ho.fit.len
  have hP := ho.p1
  obtain ⟨wb, hwb⟩ : ∃ wb, (w.alloc (.cells #[.pointer (some ⟨cb, 0, none⟩)] 110)).alloc (.cells #[.int .i64 x] 3) = wb := ⟨_, rfl⟩
  have hbb : Below w.heap.size w wb := by rw [← hwb]; exact ((Below.refl _ w).alloc (Nat.le_refl _) _).alloc (by simp) _
  have BB : Hid (Below w.heap.size w wb) := hbb
  have hq2 : wb.cell? ⟨w.heap.size, 0, none⟩ = some (.pointer (some ⟨cb, 0, none⟩)) := by
    rw [← hwb]; exact Lib.cell?_alloc_some _ (by simp)
  have hq1 : wb.cell? ⟨w.heap.size + 1, 0, none⟩ = some (.int .i64 x) := by
    rw [← hwb]
    have := Go.heap_alloc_new (w.alloc (.cells #[.pointer (some ⟨cb, 0, none⟩)] 110)) (.cells #[.int .i64 x] 3)
    rw [World.size_alloc] at this
    exact cell_of_row _ _ 0 _ _ _ this
  have hsz : wb.heap.size = w.heap.size + 2 := by rw [← hwb]; simp
  obtain ⟨pr, hpr⟩ : ∃ pr : Nat → Bool, ∀ k (hk : k < m.length), pr k = decide (x < 256 * ((m[k].pg + m[k].k : Nat) : Int)) := ⟨fun k => if hk : k < m.length then decide (x < 256 * ((m[k].pg + m[k].k : Nat) : Int)) else false, fun k hk => by simp [hk]⟩
  have HK : Hid (∀ (w' : World) (k : Nat), Below wb.heap.size wb w' → k < m.length → Calls Tryz.prog 208 #[.int .i64 (k : Nat), .pointer (some ⟨w.heap.size + 1, 0, none⟩), .pointer (some ⟨w.heap.size, 0, none⟩)] w' (fun e w'' => e = .returned (.bool (pr k)) ∧ Below w'.heap.size w' w'')) := by
    intro w' k hb' hk
    have hC := (h.keep (Ext.refl _ _) hbb).keep (Ext.refl _ _) hb'
    obtain ⟨g, p, e1, _, _, e2, _, b, g', e3, _⟩ := hC.at k hk
    have c1 := hC.cell1
    rw [e1] at c1
    rw [hpr k hk]
    have hr := Sg.Ok.rt ho.fit ho.p1 (List.getElem_mem hk)
    have hle := (ho.fit.ok _ (List.getElem_mem hk)).2.2
    exact kfind1_any (w.heap.size + 1) w.heap.size cb g k p x _ _ _ (m[k].pg + m[k].k) m.length cap w' ((hb'.cell (p := ⟨w.heap.size + 1, 0, none⟩) (by show w.heap.size + 1 < wb.heap.size; omega)).trans hq1) ((hb'.cell (p := ⟨w.heap.size, 0, none⟩) (by show w.heap.size < wb.heap.size; omega)).trans hq2) c1 e2 e3.box hC.tab.1 hr (by have : m[k].k = pgsN (m[k].cl : Int) (m[k].bts : Int) := rfl; rw [this]; omega) (by omega) hk (by omega)
  have HM : Hid (∀ i j, i ≤ j → j < m.length → pr i = true → pr j = true) := by
    intro i j hij hj h1
    rw [hpr i (by omega)] at h1
    rw [hpr j hj]
    have h1 := of_decide_eq_true h1
    refine decide_eq_true ?_
    rcases Nat.lt_or_eq_of_le hij with e | e
    · have := (ho.fit.split hj).2 (m[i]'(by omega)) (by rw [List.mem_iff_getElem]; exact ⟨i, by simp; omega, by simp⟩)
      omega
    · subst e; exact h1
  have FO : Hid (∀ i, i ≤ m.length → (∀ k, k < i → pr k = false) → (∀ k, i ≤ k → k < m.length → pr k = true) → FindM m x i) := fun i hi h1 h2 => FindM.of pr hpr hi h1 h2
  have c1 : wb.cell? ⟨cb, 1, none⟩ = some (.slice a m.length cap) := (h.keep (Ext.refl _ _) hbb).cell1
  clear hpr h ho hbb hq1 hsz
  go_enter Tryz.func153, Tryz.ntmps153
  go_wp2_with fail
  refine (ksearch_any m.length (w.heap.size + 1) w.heap.size pr wb (by omega) HM.out HK.out).mono ?_
  rintro e w1 ⟨i, hi, rfl, h1, h2, b1⟩
  have FI : Hid (FindM m x i) := FO.out i hi h1 h2
  have B1 : Hid (Below w.heap.size w w1) := BB.out.trans (b1.mono BB.out.size)
  clear h1 h2 b1
  go_wp2
  go_ret
  exact ⟨i, FI.out, rfl, B1.out⟩
theorem khasW_any (L : Nat → Nat) (cb fb hb : Nat) (a : Option Addr) (cap : Nat) (ps : List Nat) (sh : List Value) (P W : Nat) (φ : Nat → Bool) (m : List Sg) (K : Nat → Nat → List Nat) (v : Int) (w : World) (h : Cm w L cb fb hb a cap ps sh P W φ m K) (hW : W ≤ 8) :
    Calls Tryz.prog 132 #[.pointer (some ⟨cb, 0, none⟩), .int .i64 v] w fun e w' => e = .returned (.bool (decide (0 ≤ v ∧ v < (W : Int)))) ∧ w = w' := by
  have c2 := h.cell2
  clear h
  by_cases h0 : 0 ≤ v
  · go_enter Tryz.func132, Tryz.ntmps132
    go_wp2
    go_ret
    exact ⟨by congr 2; simp [h0], rfl⟩
  · go_enter Tryz.func132, Tryz.ntmps132
    have h0' : v < 0 := by omega
    go_wp2
    go_ret
    exact ⟨by congr 2; simp; omega, rfl⟩
theorem cNaN_any (x : Int) (w : World) : Calls Tryz.prog 262 #[.int .i64 x] w fun e w' => e = .returned (.bool false) ∧ w = w' := by
  go_enter Tryz.func262, Tryz.ntmps262
  go_wp2
  go_ret
  exact ⟨by simp, rfl⟩
theorem sNaN_any (x : Int) (w : World) : Calls Tryz.prog 240 #[.int .i64 x] w fun e w' => e = .returned (.bool false) ∧ w = w' := by
  go_enter Tryz.func240, Tryz.ntmps240
  go_wp2
  go_ret
  exact ⟨by simp, rfl⟩
theorem less_any (x y : Int) (w : World) : Calls Tryz.prog 239 #[.int .i64 x, .int .i64 y] w fun e w' => e = .returned (.bool (decide (x < y))) ∧ w = w' := by
  go_enter Tryz.func239, Tryz.ntmps239
  go_wp2_with (go_at_call 262; refine (cNaN_any _ _).mono ?_; rintro e w' ⟨rfl, rfl⟩)
  go_ret
  exact ⟨rfl, rfl⟩
end Go.Proofs.YtgdjlopnhecmjaaGreatDoor

/- Layer 15: KaC again -/
namespace Go.Proofs.YtgdjlopnhecmjaaGreatDoor
open Go.RowKit
set_option linter.unusedVariables false
set_option maxRecDepth 4000
/-- Where a number stands in a rising list. -/
structure BinR (l : List Nat) (x : Int) (i : Nat) : Prop where
  le : i ≤ l.length
  low : ∀ k (hk : k < l.length), k < i → (l[k] : Int) < x
  high : ∀ k (hk : k < l.length), i ≤ k → x ≤ (l[k] : Int)
theorem BinR.mem {l : List Nat} {x : Int} {i : Nat} (h : BinR l x i) (hs : l.Pairwise (· < ·)) : (∃ y ∈ l, (y : Int) = x) ↔ ∃ hi : i < l.length, (l[i] : Int) = x := by
  constructor
  · rintro ⟨y, hy, e⟩
    obtain ⟨k, hk, rfl⟩ := List.getElem_of_mem hy
    rcases Nat.lt_trichotomy k i with q | q | q
    · have := h.low k hk q; omega
    · subst q; exact ⟨hk, e⟩
    · have hi : i < l.length := by omega
      have h1 := h.high i hi (Nat.le_refl _)
      have h2 := List.pairwise_iff_getElem.1 hs i k hi hk q
      omega
  · rintro ⟨hi, e⟩; exact ⟨_, List.getElem_mem hi, e⟩
set_option maxHeartbeats 2000000 in
theorem bins_any (S : Nat → Prop) (a : Option Addr) (cap : Nat) (l : List Nat) (x : Int) (w : World) (h : VAt w S 3 a (l.map numV) cap) (hs : l.Pairwise (· < ·)) (hl : l.length ≤ 100000) (r : Bool) (hr : decide (∃ y ∈ l, (y : Int) = x) = r) :
    Calls Tryz.prog 209 #[.slice a l.length cap, .int .i64 x] w fun e w' => ∃ i : Nat, e = .returned (.tuple #[.int .i64 (i : Nat), .bool r]) ∧ BinR l x i ∧ w = w' := by
  have HC : Hid (∀ k (hk : k < l.length), ∃ g, a = some ⟨g, 0, none⟩ ∧ w.cell? ⟨g, k, none⟩ = some (.int .i64 (l[k] : Nat))) := fun k hk => by
    obtain ⟨g, h1, _, _, h2, _⟩ := h.at k (by simpa using hk)
    exact ⟨g, h1, by rw [h2]; simp [numV]⟩
  have HS : Hid (∀ i j (hi : i < l.length) (hj : j < l.length), i ≤ j → l[i] ≤ l[j]) := fun i j hi hj hij => by
    rcases Nat.lt_or_eq_of_le hij with e | e
    · exact Nat.le_of_lt (List.pairwise_iff_getElem.1 hs i j hi hj e)
    · subst e; exact Nat.le_refl _
  obtain ⟨n, hn⟩ : ∃ n, l.length = n := ⟨_, rfl⟩
  have EN : Hid (l.length = n) := hn
  have PW : Hid (l.Pairwise (· < ·)) := hs
  have HR : Hid (decide (∃ y ∈ l, (y : Int) = x) = r) := hr
  rw [hn] at hl ⊢
  clear h hs hn hr
  go_enter Tryz.func209, Tryz.ntmps209
  go_wp2
  go_loopw [7, 8] (fun iv jv wr => ∃ i j : Nat, i ≤ j ∧ j ≤ n ∧ iv = .int .i64 (i : Nat) ∧ jv = .int .i64 (j : Nat) ∧ (∀ k (hk : k < l.length), k < i → (l[k] : Int) < x) ∧ (∀ k (hk : k < l.length), j ≤ k → x ≤ (l[k] : Int)) ∧ w = wr) (fun iv jv _ => (intOf jv).toNat - (intOf iv).toNat)
  case atStart => exact ⟨0, n, Nat.zero_le _, Nat.le_refl _, rfl, rfl, fun k hk h => by omega, fun k hk h => by have := EN.out; omega, rfl⟩
  case round =>
    obtain ⟨i, j, hij, hjn, rfl, rfl, hA, hB, rfl⟩ := hrel
    have HA : Hid (∀ k (hk : k < l.length), k < i → (l[k] : Int) < x) := hA
    have HB : Hid (∀ k (hk : k < l.length), j ≤ k → x ≤ (l[k] : Int)) := hB
    clear hA hB
    by_cases hlt : i < j
    · have hlt' : (i : Int) < (j : Int) := by omega
      obtain ⟨m, hmm⟩ : ∃ m, (i + j) / 2 = m := ⟨_, rfl⟩
      have hm1 : i ≤ m := by omega
      have hm2 : m < j := by omega
      have hml : m < l.length := by have := EN.out; omega
      obtain ⟨g, rfl, hc⟩ := HC.out m hml
      obtain ⟨y, hy⟩ : ∃ y, l[m] = y := ⟨_, rfl⟩
      have EY : Hid (l[m] = y) := hy
      rw [hy] at hc
      have hmi : (m : Int) < (n : Int) := by omega
      have hm0 : (0 : Int) ≤ (m : Int) := by omega
      have hdiv : ((i : Int) + (j : Int)) / 2 = (m : Int) := by omega
      cases hp : decide ((y : Int) < x)
      · have hnl : ¬ ((y : Int) < x) := of_decide_eq_false hp
        have NB : Hid (∀ k (hk : k < l.length), m ≤ k → x ≤ (l[k] : Int)) := fun k hk hmk => by
          have := HS.out m k hml hk hmk
          rw [EY.out] at this
          omega
        clear hmm hy
        go_wp2_with (first | (rw [hdiv]) | (go_at_call 239; refine (less_any _ _ _).mono ?_; rw [hp]; rintro e w' ⟨rfl, rfl⟩))
        go_roundw
        case rel => exact ⟨i, m, by omega, by omega, rfl, rfl, HA.out, NB.out, trivial⟩
        case measure => simp [intOf]; omega
      · have hnl : (y : Int) < x := of_decide_eq_true hp
        have NA : Hid (∀ k (hk : k < l.length), k < m + 1 → (l[k] : Int) < x) := fun k hk hmk => by
          have := HS.out k m hk hml (by omega)
          rw [EY.out] at this
          omega
        clear hmm hy
        go_wp2_with (first | (rw [hdiv]) | (go_at_call 239; refine (less_any _ _ _).mono ?_; rw [hp]; rintro e w' ⟨rfl, rfl⟩))
        go_roundw
        case rel => exact ⟨m + 1, j, by omega, by omega, by go_num, rfl, NA.out, HB.out, trivial⟩
        case measure => simp [intOf]; omega
    · obtain rfl : i = j := by omega
      have BR : Hid (BinR l x i) := ⟨by have := EN.out; omega, HA.out, HB.out⟩
      by_cases hin : i < n
      · have hil : i < l.length := by have := EN.out; omega
        obtain ⟨g, rfl, hc⟩ := HC.out i hil
        obtain ⟨y, hy⟩ : ∃ y, l[i] = y := ⟨_, rfl⟩
        rw [hy] at hc
        have hin' : (i : Int) < (n : Int) := by omega
        have hi0 : (0 : Int) ≤ (i : Int) := by omega
        cases hp : ((y : Int) == x)
        · have ER : Hid (r = false) := by
            show r = false
            rw [← HR.out]
            refine decide_eq_false (fun h => ?_)
            obtain ⟨_, e⟩ := (BR.out.mem PW.out).1 h
            rw [hy] at e
            rw [beq_eq_false_iff_ne] at hp
            exact hp e
          clear hy HR
          go_wp2_with (go_at_call 240; refine (sNaN_any _ _).mono ?_; rintro e w' ⟨rfl, rfl⟩)
          go_ret2
          exact ⟨i, by rw [ER.out]; rfl, BR.out, rfl⟩
        · have ER : Hid (r = true) := by
            show r = true
            rw [← HR.out]
            refine decide_eq_true ((BR.out.mem PW.out).2 ⟨hil, ?_⟩)
            rw [hy]
            exact eq_of_beq hp
          clear hy HR
          go_wp2_with (go_at_call 240; refine (sNaN_any _ _).mono ?_; rintro e w' ⟨rfl, rfl⟩)
          go_ret2
          exact ⟨i, by rw [ER.out]; rfl, BR.out, rfl⟩
      · obtain rfl : i = n := by omega
        have ER : Hid (r = false) := by
          show r = false
          rw [← HR.out]
          refine decide_eq_false (fun h => ?_)
          obtain ⟨hi, _⟩ := (BR.out.mem PW.out).1 h
          have := EN.out
          omega
        clear HR
        go_wp2_with (go_at_call 240; refine (sNaN_any _ _).mono ?_; rintro e w' ⟨rfl, rfl⟩)
        go_ret2
        exact ⟨i, by rw [ER.out]; rfl, BR.out, rfl⟩
end Go.Proofs.YtgdjlopnhecmjaaGreatDoor
