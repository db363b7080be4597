/- What Scavenge does. -/
import Derived.Test.YtgmljgogmbaioaaGreatDoorKaTU
import Derived.Test.YtgmljgogmbaioaaGreatDoorVaDE
namespace Go.Proofs.YtgmljgogmbaioaaGreatDoor
open Go.RowKit
set_option linter.unusedVariables false
set_option maxRecDepth 4000

/-- What is left of a list, the members from k on asked. -/
def stayA {α : Type} (q : Nat → Bool) : Nat → List α → List α
  | _, [] => []
  | k, x :: l => (if q k then [] else [x]) ++ stayA q (k + 1) l
theorem stayA_map {α : Type} (q : Nat → Bool) (f : α → Value) : ∀ (l : List α) (k : Nat), keepF q k (l.map f) = (stayA q k l).map f
  | [], _ => rfl
  | x :: l, k => by rw [List.map_cons, keepF, stayA, stayA_map q f l (k + 1), List.map_append]; split <;> rfl
theorem stayA_len {α β : Type} (q : Nat → Bool) : ∀ (l : List α) (r : List β) (k : Nat), l.length = r.length → (stayA q k l).length = (stayA q k r).length
  | [], [], _, _ => rfl
  | x :: l, y :: r, k, h => by
    have := stayA_len q l r (k + 1) (by simpa using h)
    rw [stayA, stayA, List.length_append, List.length_append, this]; split <;> rfl
/-- What stays stood somewhere. -/
theorem stayA_at {α β : Type} (q : Nat → Bool) : ∀ (l : List α) (r : List β) (k j : Nat) (h : l.length = r.length) (hj : j < (stayA q k l).length) (hj' : j < (stayA q k r).length), ∃ i, ∃ hi : i < l.length, ∃ hi' : i < r.length, (stayA q k l)[j] = l[i] ∧ (stayA q k r)[j] = r[i]
  | [], [], _, j, _, hj, _ => by simp [stayA] at hj
  | x :: l, y :: r, k, j, h, hj, hj' => by
    have h' : l.length = r.length := by simpa using h
    cases hq : q k
    · have e1 : stayA q k (x :: l) = x :: stayA q (k + 1) l := by rw [stayA, hq]; rfl
      have e2 : stayA q k (y :: r) = y :: stayA q (k + 1) r := by rw [stayA, hq]; rfl
      rcases j with _ | j
      · exact ⟨0, by simp, by simp, by simp [e1], by simp [e2]⟩
      · obtain ⟨i, hi, hi', z1, z2⟩ := stayA_at q l r (k + 1) j h' (by rw [e1] at hj; simpa using hj) (by rw [e2] at hj'; simpa using hj')
        exact ⟨i + 1, by simpa using hi, by simpa using hi', by simp only [e1, List.getElem_cons_succ]; exact z1, by simp only [e2, List.getElem_cons_succ]; exact z2⟩
    · have e1 : stayA q k (x :: l) = stayA q (k + 1) l := by rw [stayA, hq]; rfl
      have e2 : stayA q k (y :: r) = stayA q (k + 1) r := by rw [stayA, hq]; rfl
      obtain ⟨i, hi, hi', z1, z2⟩ := stayA_at q l r (k + 1) j h' (by rw [e1] at hj; exact hj) (by rw [e2] at hj'; exact hj')
      exact ⟨i + 1, by simpa using hi, by simpa using hi', by simp only [e1, List.getElem_cons_succ]; exact z1, by simp only [e2, List.getElem_cons_succ]; exact z2⟩
theorem stayA_filter (p : Sg → Bool) (q : Nat → Bool) : ∀ (l : List Sg) (k : Nat), (∀ j (hj : j < l.length), q (k + j) = !p l[j]) → stayA q k l = l.filter p
  | [], _, _ => rfl
  | x :: l, k, h => by
    have h0 : q k = !p x := by have := h 0 (by simp); simpa using this
    rw [stayA, stayA_filter p q l (k + 1) (fun j hj => by have := h (j + 1) (by simp; omega); rw [show k + 1 + j = k + (j + 1) by omega]; simpa using this), List.filter_cons, h0]
    cases p x <;> rfl
/-- Has a span an object, or a slot that is kept? -/
def anyB (s : Sg) : Bool := s.st.any (fun x => x != 0)
theorem cnt_zero {f : Nat → Bool} : ∀ {n : Nat}, cnt f n = 0 ↔ ∀ i, i < n → f i = false
  | 0 => by simp [cnt]
  | n + 1 => by
    rw [cnt]
    constructor
    · intro h i hi
      have h1 : cnt f n = 0 := by omega
      rcases Nat.lt_or_eq_of_le (Nat.le_of_lt_succ hi) with e | e
      · exact cnt_zero.1 h1 i e
      · subst e
        cases hf : f i
        · rfl
        · rw [hf] at h; simp at h
    · intro h
      have := (cnt_zero (f := f) (n := n)).2 (fun i hi => h i (by omega))
      rw [this, h n (by omega)]; rfl
theorem live_zero {W : Nat} {s : Sg} (h : s.Ok W) : (((cnt s.f (slN (s.cl : Int)) : Nat) : Int) == 0) = !anyB s := by
  rw [← h.len]
  have key : cnt s.f s.st.length = 0 ↔ anyB s = false := by
    rw [cnt_zero]
    unfold anyB
    rw [List.any_eq_false]
    constructor
    · intro hf x hx
      obtain ⟨i, hi, rfl⟩ := List.getElem_of_mem hx
      have := hf i hi
      rw [Sg.f_at (List.getElem?_eq_getElem hi)] at this
      simpa using this
    · intro hx i hi
      rw [Sg.f_at (List.getElem?_eq_getElem hi)]
      have := hx _ (List.getElem_mem hi)
      simpa using this
  cases ha : anyB s
  · have := key.2 ha
    rw [this]; rfl
  · have : cnt s.f s.st.length ≠ 0 := fun e => by rw [key.1 e] at ha; cases ha
    simp; omega
end Go.Proofs.YtgmljgogmbaioaaGreatDoor

/- What Scavenge does, walked. -/
namespace Go.Proofs.YtgmljgogmbaioaaGreatDoor
open Go.RowKit
set_option linter.unusedVariables false
set_option maxRecDepth 4000

set_option maxHeartbeats 1000000 in
theorem kend_core (S : Nat → Prop) (cb fb P : Nat) (φ : Nat → Bool) (p : Nat) (s : Sg) (w : World) (hT : TabC w) (c0 : w.cell? ⟨cb, 0, none⟩ = some (.pointer (some ⟨fb, 0, none⟩))) (hfr : IsR w S fb P φ) (hS : ∀ i, w.heap.size ≤ i → S i) (hbx : Bx w p (s.pg : Int) (s.cl : Int) (s.bts : Int)) (rt : Rt (s.pg : Int) (s.cl : Int) (s.bts : Int)) (hP : P ≤ 4096) (hle : s.pg + s.k ≤ P) (hall : AllF φ s.pg s.k true) :
    Calls Tryz.prog 59 #[.pointer (some ⟨cb, 0, none⟩), .pointer (some ⟨p, 0, none⟩)] w fun e w' => e = .returned (.tuple #[]) ∧ IsR w' S fb P (turnU φ s.pg s.k false) ∧ Tu S w w' := by
  have HS : Hid (∀ i, w.heap.size ≤ i → S i) := hS
  have HB : Hid (Bx w.drew p (s.pg : Int) (s.cl : Int) (s.bts : Int)) := hbx.drew
  have HTC : Hid (TabC w.drew) := hT
  have FR : Hid (IsR w.drew S fb P φ) := hfr.drew
  have h0 := rt.c0
  have h7 := rt.c7
  obtain ⟨k, hk⟩ : ∃ k, s.k = k := ⟨_, rfl⟩
  have EK : Hid (pgsN (s.cl : Int) (s.bts : Int) = k) := hk
  have hk1 : 1 ≤ k := by have := rt.facts.2.2.2.2.2.2.1; have e : s.k = pgsN (s.cl : Int) (s.bts : Int) := rfl; omega
  rw [hk] at hle hall ⊢
  have HALL : Hid (AllF φ s.pg k true) := hall
  have PC : Hid (Calls Tryz.prog 82 #[.pointer (some ⟨p, 0, none⟩)] w.drew fun e w' => e = .returned (.int .i64 (k : Nat)) ∧ w' = w.drew) := (pages_q p _ _ _ k w.drew HB.out HTC.out h0 h7 EK.out)
  clear hT hfr hS hbx rt hall hk
  go_enter Tryz.func59, Tryz.ntmps59
  go_wp2_with fail
  go_region_law (first
    | (refine step_call rfl 79 _ _ rfl [.pointer (some ⟨p, 0, none⟩)] (by simp [Act.eval, Act.put]) _ (page_any p _ _ _ w.drew HB.out) ent_page ?_; rintro e w2 ⟨rfl, rfl⟩; refine ⟨_, rfl, ?_⟩)
    | (refine step_call rfl 82 _ _ rfl [.pointer (some ⟨p, 0, none⟩)] (by simp [Act.eval]) _ PC.out ent_pages ?_; rintro e w2 ⟨rfl, rfl⟩; refine ⟨_, rfl, ?_⟩)
    | (refine step_call rfl 93 _ _ rfl [.pointer (some ⟨fb, 0, none⟩), .int .i64 (s.pg : Int), .int .i64 (k : Int)] (by simp [Act.eval]) _ (ugive_any _ fb P φ (s.pg : Int) (k : Int) w.drew FR.out HS.out (by omega) (by omega) (by omega)) ent_ugive ?_; rintro e w2 ⟨r, f', rfl, hU, i1, t1⟩; refine ⟨_, rfl, ?_⟩; have HU : Hid (TurnR P φ (s.pg : Int) (k : Int) false r f') := hU; have I1 : Hid (IsR w2 S fb P f') := i1; have T1 : Hid (Tu S w.drew w2) := t1; clear hU i1 t1))
  all_goals
    go_wp2
    go_end0
    have T1' : Tu S w w2 := ⟨T1.out.os, T1.out.tape, T1.out.output, T1.out.size, T1.out.block⟩
    obtain ⟨_, rfl⟩ : r = 0 ∧ f' = turnU φ s.pg k false := HU.out.one (.inr (.inr ⟨by omega, by omega, by omega, by rw [Int.toNat_natCast, Int.toNat_natCast]; exact HALL.out, rfl, by rw [Int.toNat_natCast, Int.toNat_natCast]⟩))
    exact ⟨rfl, I1.out, T1'⟩

theorem sum_eq (L : List (Nat × Nat)) : sumL L = (L.map (·.2)).sum := by
  induction L with
  | nil => rfl
  | cons r L ih => rw [sumL, ih]; simp
/-- How many free pages there are more. -/
theorem scav_sum {W P : Nat} {m : List Sg} (h : Fit W P 0 m) : sumL (freeL (pgF (scavM m)) P) = sumL (freeL (pgF m) P) + scavN m := by
  have h' : Fit W P 0 (scavM m) := h.filter _
  rw [← free_eq h, ← free_eq h', sum_eq, sum_eq]
  have e1 := free_sum h
  have e2 := free_sum h'
  have e3 : (m.map Sg.k).sum = ((scavM m).map Sg.k).sum + scavN m := by
    unfold scavM scavN
    clear e1 e2 h h'
    induction m with
    | nil => rfl
    | cons s m ih =>
      rw [List.filter_cons, List.filter_cons]
      cases s.st.any (fun x => x != 0) <;> simp <;> omega
  omega
/-- The taken pages behind k questions. -/
def phiK (m : List Sg) (k : Nat) : Nat → Bool := pgF ((m.take k).filter anyB ++ m.drop k)
theorem phi_zero (m : List Sg) : phiK m 0 = pgF m := by unfold phiK; simp
theorem phi_all (m : List Sg) : phiK m m.length = pgF (scavM m) := by unfold phiK; simp; rfl
theorem pgF_app (a b : List Sg) (p : Nat) : pgF (a ++ b) p = (pgF a p || pgF b p) := by unfold pgF; rw [List.any_append]
theorem phi_keep {m : List Sg} {k : Nat} (hk : k < m.length) (h : anyB m[k] = true) : phiK m (k + 1) = phiK m k := by
  unfold phiK
  rw [List.take_succ_eq_append_getElem hk, List.filter_append, List.drop_eq_getElem_cons hk]
  simp [h]
theorem phi_drop {W P : Nat} {m : List Sg} (hf : Fit W P 0 m) {k : Nat} (hk : k < m.length) (h : anyB m[k] = false) : phiK m (k + 1) = turnU (phiK m k) m[k].pg m[k].k false ∧ AllF (phiK m k) m[k].pg m[k].k true := by
  have e1 : phiK m k = pgF ((m.take k).filter anyB ++ m[k] :: m.drop (k + 1)) := by unfold phiK; rw [List.drop_eq_getElem_cons hk]
  have e2 : phiK m (k + 1) = pgF ((m.take k).filter anyB ++ m.drop (k + 1)) := by
    unfold phiK
    rw [List.take_succ_eq_append_getElem hk, List.filter_append]
    simp [h]
  have apart : ∀ t ∈ (m.take k).filter anyB ++ m.drop (k + 1), t.pg + t.k ≤ m[k].pg ∨ m[k].pg + m[k].k ≤ t.pg := fun t ht => by
    rcases List.mem_append.1 ht with ht | ht
    · exact .inl ((hf.split hk).2 t (List.mem_filter.1 ht).1)
    · exact .inr ((hf.split hk).1.ok t ht).2.1
  constructor
  · rw [e1, e2]
    funext p
    unfold turnU
    split
    · rename_i hp
      cases e : pgF ((m.take k).filter anyB ++ m.drop (k + 1)) p
      · rfl
      · obtain ⟨t, ht, h1⟩ := pgF_true.1 e
        have := apart t ht
        omega
    · rename_i hp
      rw [pgF_app, pgF_app, pgF_cons, decide_eq_false hp, Bool.false_or]
  · rw [e1]
    exact allF_pg (W := W) (P := P) (List.mem_append_right _ List.mem_cons_self)
end Go.Proofs.YtgmljgogmbaioaaGreatDoor

/- Scavenge's question, and Scavenge. -/
namespace Go.Proofs.YtgmljgogmbaioaaGreatDoor
open Go.RowKit
set_option linter.unusedVariables false
set_option maxRecDepth 4000

/-- A block laid anew. -/
def relay (w : World) (g : Nat) (o : Obj) : World := { w with heap := w.heap.setIfInBounds g o }
theorem relay_same {w : World} {g : Nat} {o : Obj} (h : g < w.heap.size) : (relay w g o).heap[g]? = some o := by simp [relay, h]
theorem relay_only (w : World) (g : Nat) (o : Obj) : Only g w (relay w g o) := ⟨rfl, rfl, rfl, by simp [relay], fun k hk => by show (w.heap.setIfInBounds g o)[k]? = _; rw [Array.getElem?_setIfInBounds, if_neg (fun e => hk e.symm)]⟩
theorem Only.symm {g : Nat} {w w' : World} (h : Only g w w') : Only g w' w := ⟨h.os.symm, h.tape.symm, h.output.symm, h.size.symm, fun k hk => (h.block k hk).symm⟩
/-- Under way: the cache but for its row, which is being turned. -/
structure Jw (L : Nat → Nat) (w : World) (cb fb hb g cap : Nat) (ps : List Nat) (sh : List Value) (P W : Nat) (m : List Sg) (K : Nat → Nat → List Nat) (q1 k : Nat) (wr : World) : Prop where
  ex : ∃ L1 w0, Cm w0 L1 cb fb hb (some ⟨g, 0, none⟩) cap ps sh P W (phiK m k) m K ∧ Only g w0 wr ∧ Mv L w L1 w0 ∧ L1 g = 3 ∧ L1 q1 = 0 ∧ q1 < w0.heap.size ∧ w0.cell? ⟨q1, 0, none⟩ = some (.pointer (some ⟨cb, 0, none⟩))
theorem Jw.only {L : Nat → Nat} {w : World} {cb fb hb g cap : Nat} {ps : List Nat} {sh : List Value} {P W : Nat} {m : List Sg} {K : Nat → Nat → List Nat} {q1 k : Nat} {wr w' : World} (h : Jw L w cb fb hb g cap ps sh P W m K q1 k wr) (ho : Only g wr w') : Jw L w cb fb hb g cap ps sh P W m K q1 k w' := by
  obtain ⟨L1, w0, h1, h2, h3⟩ := h.ex
  exact ⟨⟨L1, w0, h1, h2.trans ho, h3⟩⟩
theorem ent_kend : (match Tryz.prog.funcs[59]? with | some fn => !(fn.name == "runtime.NumGoroutine") && !fn.body.isNone | none => false) = true := by kernel_rfl
set_option maxHeartbeats 1000000 in
theorem scav1_any (L : Nat → Nat) (w : World) (cb fb hb g cap : Nat) (ps : List Nat) (sh : List Value) (P W : Nat) (m : List Sg) (K : Nat → Nat → List Nat) (q1 k : Nat) (wr : World) (ho : Okc P W m) (hk : k < m.length) (hkp : k < ps.length) (hJ : Jw L w cb fb hb g cap ps sh P W m K q1 k wr) (r : Bool) (hr : (!anyB m[k]) = r) :
    Calls Tryz.prog 74 #[ptrV ps[k], .pointer (some ⟨q1, 0, none⟩)] wr fun e w' => e = .returned (.bool r) ∧ Jw L w cb fb hb g cap ps sh P W m K q1 (k + 1) w' ∧ w'.heap[g]? = wr.heap[g]? := by
  have HJ : Hid (Jw L w cb fb hb g cap ps sh P W m K q1 k wr) := hJ
  obtain ⟨L1, w0, hC, hO, hM, hg3, hq0, hql, hqc⟩ := hJ.ex
  have hP := ho.p1
  obtain ⟨g', p, e', _, _, _, hp, hsp⟩ := hC.at k hk
  cases e'
  have hpe : ps[k] = p := by rw [List.getElem?_eq_getElem hkp] at hp; exact Option.some.inj hp
  rw [hpe]
  have OK := (ho.fit.ok _ (List.getElem_mem hk)).1
  have hle := (ho.fit.ok _ (List.getElem_mem hk)).2.2
  have RT := Sg.Ok.rt ho.fit ho.p1 (List.getElem_mem hk)
  have hsp2 : SpS wr (fun j => L1 j = 5 + 2 * m[k].pg) p m[k] := hsp.same (old_only hO (by omega)) (Nat.le_of_eq hO.size.symm)
  obtain ⟨bb, gg, hat, _⟩ := hsp2
  have HAT : Hid (SpanAt wr p bb gg (m[k].pg : Int) (m[k].cl : Int) (m[k].bts : Int) m[k].f) := hat
  have hqg : q1 ≠ g := fun e => by rw [e] at hq0; omega
  have q1c : wr.cell? ⟨q1, 0, none⟩ = some (.pointer (some ⟨cb, 0, none⟩)) := by rw [hO.cell (p := ⟨q1, 0, none⟩) hqg]; exact hqc
  have lz := live_zero OK
  rw [hr] at lz
  have hcbg : cb ≠ g := fun e => by have := hC.lb; rw [e] at this; omega
  have c0 : wr.cell? ⟨cb, 0, none⟩ = some (.pointer (some ⟨fb, 0, none⟩)) := by rw [hO.cell (p := ⟨cb, 0, none⟩) hcbg]; exact hC.cell0
  have t0 : g ≠ 0 := fun e => by have := hC.l0; rw [e] at hg3; omega
  have t1 : g ≠ 1 := fun e => by have := hC.l1; rw [e] at hg3; omega
  have HTB : Hid (Tabs wr) := hC.tab.only hO t0 t1
  have hgl : g < w0.heap.size := by obtain ⟨gx, ex, _, hx, _⟩ := hC.row.at k (by rw [List.length_map]; exact hkp); cases ex; exact hx
  have hsz := hO.size
  have HFR : Hid (IsR wr (fun j => L1 j = 2 ∨ wr.heap.size ≤ j) fb P (phiK m k)) := (hC.free.mono (T := fun j => L1 j = 2 ∨ wr.heap.size ≤ j) (fun i _ e => .inl e)).same (old_only hO (by omega))
  cases r with
  | false =>
    have hany : anyB m[k] = true := by simpa using hr
    have NX : Hid (Jw L w cb fb hb g cap ps sh P W m K q1 (k + 1) wr) := ⟨⟨L1, w0, by rw [phi_keep hk hany]; exact hC, hO, hM, hg3, hq0, hql, hqc⟩⟩
    obtain ⟨s, hs⟩ : ∃ s, m[k] = s := ⟨_, rfl⟩
    rw [hs] at lz HAT
    obtain ⟨x, hx⟩ : ∃ x, cnt s.f (slN (s.cl : Int)) = x := ⟨_, rfl⟩
    have EX : Hid (cnt s.f (slN (s.cl : Int)) = x) := hx
    rw [hx] at lz
    clear hat hC hO hM OK RT hle hsp hr hany hs hx
    go_enter Tryz.func74, Tryz.ntmps74
    go_wp2_with (go_at_call 75; refine (live_any p bb gg _ _ _ _ _ HAT.out).mono ?_; rw [EX.out]; rintro e w2 ⟨rfl, rfl⟩)
    go_ret
    exact ⟨rfl, NX.out, rfl⟩
  | true =>
    have hany : anyB m[k] = false := by simpa using hr
    obtain ⟨d1, d2⟩ := phi_drop ho.fit hk hany
    have HSS : Hid (∀ i, wr.heap.size ≤ i → (L1 i = 2 ∨ wr.heap.size ≤ i)) := fun i hi => .inr hi
    have FIN : Hid (∀ w2, IsR w2 (fun j => L1 j = 2 ∨ wr.heap.size ≤ j) fb P (turnU (phiK m k) m[k].pg m[k].k false) → Tu (fun j => L1 j = 2 ∨ wr.heap.size ≤ j) wr w2 → Jw L w cb fb hb g cap ps sh P W m K q1 (k + 1) w2 ∧ w2.heap[g]? = wr.heap[g]?) := fun w2 hi ht => by
      have hz2 := ht.size
      have hg2 : w2.heap[g]? = wr.heap[g]? := by
        rw [Array.getElem?_eq_getElem (by omega : g < wr.heap.size)]
        exact ht.block g _ (Array.getElem?_eq_getElem _) (by rintro (e | e) <;> omega)
      have tu : Tu (fun j => L1 j = 2 ∨ w0.heap.size ≤ j) w0 (relay w2 g (w0.heap[g])) := by
        have ro := relay_only w2 g (w0.heap[g])
        refine ⟨ro.os.trans (ht.os.trans hO.os), ro.tape.trans (ht.tape.trans hO.tape), ro.output.trans (ht.output.trans hO.output), by rw [ro.size]; omega, fun i o hio hns => ?_⟩
        by_cases e : i = g
        · subst e
          rw [relay_same (by omega), ← hio, Array.getElem?_eq_getElem hgl]
        · rw [ro.block i e]
          exact ht.block i o (by rw [hO.block i e]; exact hio) (by rw [hsz]; exact hns)
      refine ⟨⟨⟨lab L1 w0.heap.size 2, relay w2 g (w0.heap[g]), ?_, (relay_only _ _ _).symm, hM.trans (Mv.of (fun l => l = 2) (by omega) (lab_ext w0 L1 2) tu), ?_, ?_, ?_, ?_⟩⟩, hg2⟩
      · have fr := hC.freed (φ' := phiK m (k + 1)) (lab_ext w0 L1 2) tu (by
          rw [d1]
          refine (hi.mono (fun i hi e => ?_)).same (old_only (relay_only _ _ _) ?_)
          · unfold lab; split
            · rcases e with e | e
              · exact e
              · omega
            · rfl
          · rw [lab_ext w0 L1 2 g hgl]; omega)
        exact fr
      · rw [lab_ext w0 L1 2 g hgl]; exact hg3
      · rw [lab_ext w0 L1 2 q1 hql]; exact hq0
      · rw [(relay_only w2 g _).size]; omega
      · rw [(relay_only w2 g _).cell (p := ⟨q1, 0, none⟩) hqg, ht.cell (by rintro (e | e) <;> omega) (by omega)]; exact q1c
    obtain ⟨s, hs⟩ : ∃ s, m[k] = s := ⟨_, rfl⟩
    rw [hs] at lz HAT RT hle d2 FIN
    have HRT : Hid (Rt (s.pg : Int) (s.cl : Int) (s.bts : Int)) := RT
    have HLE : Hid (s.pg + s.k ≤ P) := hle
    have HALL : Hid (AllF (phiK m k) s.pg s.k true) := d2
    obtain ⟨x, hx⟩ : ∃ x, cnt s.f (slN (s.cl : Int)) = x := ⟨_, rfl⟩
    have EX : Hid (cnt s.f (slN (s.cl : Int)) = x) := hx
    rw [hx] at lz
    clear hat hC hO hM OK RT hle hsp hr hany hs hx d1 d2
    go_enter Tryz.func74, Tryz.ntmps74
    go_wp2_with (first
      | (go_at_call 75; refine (live_any p bb gg _ _ _ _ _ HAT.out).mono ?_; rw [EX.out]; rintro e w2 ⟨rfl, rfl⟩)
      | (go_at_call 59; refine (kend_core (fun j => L1 j = 2 ∨ wr.heap.size ≤ j) cb fb P (phiK m k) p s _ HTB.out.1 c0 HFR.out HSS.out HAT.out.box HRT.out hP HLE.out HALL.out).mono ?_; rintro e w2 ⟨rfl, i2, t2⟩; have F2 : Hid _ := FIN.out w2 i2 t2; clear i2 t2))
    go_ret
    exact ⟨rfl, F2.out.1, F2.out.2⟩
end Go.Proofs.YtgmljgogmbaioaaGreatDoor
