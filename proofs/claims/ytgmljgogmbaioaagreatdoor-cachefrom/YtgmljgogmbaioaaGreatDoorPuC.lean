/- Plain mathematics of layer 11, going on: what workers keep behind each step. -/
import Derived.Test.YtgmljgogmbaioaaGreatDoorPuB
namespace Go.Proofs.YtgmljgogmbaioaaGreatDoor
set_option linter.unusedVariables false
set_option maxRecDepth 4000

/-- Rising lists with the same members are one. -/
theorem rises_eq : ∀ {l l' : List Nat}, l.Pairwise (· < ·) → l'.Pairwise (· < ·) → (∀ x, x ∈ l ↔ x ∈ l') → l = l'
  | [], [], _, _, _ => rfl
  | [], y :: l', _, _, h => by have := (h y).2 List.mem_cons_self; cases this
  | x :: l, [], _, _, h => by have := (h x).1 List.mem_cons_self; cases this
  | x :: l, y :: l', h1, h2, h => by
    rw [List.pairwise_cons] at h1 h2
    have e : x = y := by
      rcases List.mem_cons.1 ((h x).1 List.mem_cons_self) with e | e
      · exact e
      · rcases List.mem_cons.1 ((h y).2 List.mem_cons_self) with e' | e'
        · exact e'.symm
        · have := h1.1 y e'; have := h2.1 x e; omega
    subst e
    congr 1
    refine rises_eq h1.2 h2.2 (fun z => ?_)
    constructor
    · intro hz
      rcases List.mem_cons.1 ((h z).1 (List.mem_cons_of_mem _ hz)) with e | e
      · have := h1.1 z hz; omega
      · exact e
    · intro hz
      rcases List.mem_cons.1 ((h z).2 (List.mem_cons_of_mem _ hz)) with e | e
      · have := h2.1 z hz; omega
      · exact e
theorem kept_is {W P a0 v c : Nat} {m : List Sg} (hf : Fit W P a0 m) {l : List Nat} (hl : l.Pairwise (· < ·)) (h : ∀ a, a ∈ l ↔ ∃ z, In m a z c (v + 2)) : keptM v c m = l :=
  rises_eq (pl_rises _ hf) hl (fun x => by rw [mem_keptM, h])
/-- One list is another. -/
def upd (K : Nat → Nat → List Nat) (v c : Nat) (l : List Nat) : Nat → Nat → List Nat := fun v' c' => if v' = v ∧ c' = c then l else K v' c'
theorem upd_at (K : Nat → Nat → List Nat) (v c : Nat) (l : List Nat) : upd K v c l v c = l := if_pos ⟨rfl, rfl⟩
/-- What workers keep is what the slots say. -/
def Kf (m : List Sg) : Nat → Nat → List Nat := fun v c => keptM v c m
theorem kof_some {W P v c : Nat} {m : List Sg} (hf : Fit W P 0 m) (hv : v < W) (hc : c < 7) (h0 : keptM v c m = []) : Kf (someM v c m) = upd (Kf m) v c ((freeP c m).take 4) := by
  have hf' := hf.someM v c hv hc
  funext v' c'
  unfold upd Kf
  have hin : ∀ a z x, In (someM v c m) a z c' x ↔ (a ∈ (freeP c m).take 4 ∧ x = v + 2 ∧ ∃ y, In m a z c' y) ∨ (a ∉ (freeP c m).take 4 ∧ In m a z c' x) := fun a z x => sets_in
  have hfree : ∀ a, a ∈ (freeP c m).take 4 → ∃ z, In m a z c 0 := fun a ha => mem_freeP.1 (List.mem_of_mem_take ha)
  split
  · rename_i e
    obtain ⟨rfl, rfl⟩ := e
    refine kept_is hf' ((pl_rises _ hf).sublist (List.take_sublist _ _)) (fun a => ?_)
    constructor
    · intro ha
      obtain ⟨z, hz⟩ := hfree a ha
      exact ⟨z, (hin a z _).2 (.inl ⟨ha, rfl, 0, hz⟩)⟩
    · rintro ⟨z, h⟩
      rcases (hin a z _).1 h with ⟨h1, _⟩ | ⟨_, h1⟩
      · exact h1
      · have : a ∈ keptM v' c' m := mem_keptM.2 ⟨z, h1⟩
        rw [h0] at this; cases this
  · rename_i hne
    refine kept_is hf' (pl_rises _ hf) (fun a => ?_)
    rw [mem_keptM]
    constructor
    · rintro ⟨z, hz⟩
      refine ⟨z, (hin a z _).2 (.inr ⟨fun ha => ?_, hz⟩)⟩
      obtain ⟨z', h'⟩ := hfree a ha
      have := (hz.one hf h').2.2; omega
    · rintro ⟨z, h⟩
      rcases (hin a z _).1 h with ⟨h1, h2, y, h3⟩ | ⟨_, h1⟩
      · obtain ⟨z', h'⟩ := hfree a h1
        have := (h3.one hf h').2.1
        exact absurd ⟨by omega, this⟩ hne
      · exact ⟨z, h1⟩
theorem kof_ins {W P : Nat} {m : List Sg} {p c b x : Nat} (hx : x ≤ 1) (hf : Fit W P 0 (ins (fresh p c b x) m)) (hf0 : Fit W P 0 m) : Kf (ins (fresh p c b x) m) = Kf m := by
  funext v' c'
  refine kept_is hf (pl_rises _ hf0) (fun a => ?_)
  show a ∈ keptM v' c' m ↔ _
  rw [mem_keptM]
  constructor
  · rintro ⟨z, hz⟩; exact ⟨z, ins_in.2 (.inr hz)⟩
  · rintro ⟨z, hz⟩
    rcases ins_in.1 hz with h | h
    · have := (fresh_in h).1; omega
    · exact ⟨z, h⟩
/-- A slot that was kept is taken. -/
theorem kof_take {W P v c a : Nat} {l : List Nat} {m : List Sg} (hf : Fit W P 0 m) (hW : v < W) (h : keptM v c m = a :: l) : Kf (setM a 1 m) = upd (Kf m) v c l ∧ Fit W P 0 (setM a 1 m) := by
  have hr : (a :: l).Pairwise (· < ·) := by rw [← h]; exact pl_rises _ hf
  obtain ⟨z0, hz0⟩ := mem_keptM.1 (show a ∈ keptM v c m by rw [h]; exact List.mem_cons_self)
  have hf' : Fit W P 0 (setM a 1 m) := hf.set a 1 (by omega) (fun _ _ _ _ _ => by omega)
  refine ⟨?_, hf'⟩
  funext v' c'
  unfold upd Kf
  have hmem : ∀ x, x ∈ keptM v c m ↔ x = a ∨ x ∈ l := fun x => by rw [h, List.mem_cons]
  have hna : a ∉ l := fun e => by have := (List.pairwise_cons.1 hr).1 a e; omega
  split
  · rename_i e
    obtain ⟨rfl, rfl⟩ := e
    refine kept_is hf' (List.pairwise_cons.1 hr).2 (fun x => ?_)
    constructor
    · intro hx
      obtain ⟨z, hz⟩ := mem_keptM.1 ((hmem x).2 (.inr hx))
      exact ⟨z, set_in.2 (.inr ⟨fun e => hna (e ▸ hx), hz⟩)⟩
    · rintro ⟨z, hz⟩
      rcases set_in.1 hz with ⟨_, e, _⟩ | ⟨hne, hz⟩
      · omega
      · rcases (hmem x).1 (mem_keptM.2 ⟨z, hz⟩) with e | e
        · exact absurd e hne
        · exact e
  · rename_i hne
    refine kept_is hf' (pl_rises _ hf) (fun x => ?_)
    rw [mem_keptM]
    constructor
    · rintro ⟨z, hz⟩
      refine ⟨z, set_in.2 (.inr ⟨fun e => ?_, hz⟩)⟩
      subst e
      have := hz0.one hf hz
      exact hne ⟨by omega, this.2.1.symm⟩
    · rintro ⟨z, hz⟩
      rcases set_in.1 hz with ⟨_, e, _⟩ | ⟨_, hz⟩
      · omega
      · exact ⟨z, hz⟩
/-- What Take does to a small class, by the lists. -/
theorem fill_res {W P v c : Nat} {m : List Sg} (ho : Fit W P 0 m) (hv : v < W) (hc : c < 7) (h0 : keptM v c m = []) : Kf (someRes P v c m).2 = upd (Kf m) v c (someRes P v c m).1 ∧ Fit W P 0 (someRes P v c m).2 ∧ fillM P v c m = (if (someRes P v c m).1 = [] then none else some (someRes P v c m).2) := by
  have hslots : ∀ p, freeP c (ins (fresh p c 0 0) m) ≠ [] := fun p e => by
    have hs : 1 ≤ slN (c : Int) := by
      have := (fresh_ok (W := W) (p := p) (c := c) (b := 0) (x := 0) (by omega) (fun _ => rfl) (fun e => by omega) (by omega) (fun _ => by omega)).facts.1
      simpa [fresh] using this
    have : (fresh p c 0 0).at 0 ∈ freeP c (ins (fresh p c 0 0) m) := mem_freeP.2 ⟨(fresh p c 0 0).z, ins_in.2 (.inl ⟨0, by show (List.replicate (slN (c : Int)) 0)[0]? = some 0; rw [List.getElem?_replicate, if_pos (by omega)], rfl, rfl, rfl⟩)⟩
    rw [e] at this; cases this
  have take_ne : ∀ l : List Nat, l ≠ [] → l.take 4 ≠ [] := fun l h e => by
    cases l with
    | nil => exact h rfl
    | cons x l => simp at e
  by_cases hfr : freeP c m = []
  · have eR : someRes P v c m = match layP P 1 0 m with
        | none => ([], m)
        | some p => ((freeP c (ins (fresh p c 0 0) m)).take 4, someM v c (ins (fresh p c 0 0) m)) := by unfold someRes; rw [if_neg (by simp [hfr])]; cases layP P 1 0 m <;> rfl
    have eF : fillM P v c m = (layP P 1 0 m).map (fun p => someM v c (ins (fresh p c 0 0) m)) := by unfold fillM; rw [if_neg (by simp [h0]), if_neg (by simp [hfr])]
    rw [eR, eF]
    rcases hl : layP P 1 0 m with _ | p
    · refine ⟨?_, ho, by simp⟩
      funext v' c'
      show keptM v' c' m = upd (Kf m) v c [] v' c'
      unfold upd Kf
      split
      · rename_i e; obtain ⟨rfl, rfl⟩ := e; exact h0
      · rfl
    · have ok : (fresh p c 0 0).Ok W := fresh_ok (by omega) (fun _ => rfl) (fun e => by omega) (by omega) (fun _ => by omega)
      have hk : (fresh p c 0 0).k = 1 := by show pgsN (c : Int) ((0 : Nat) : Int) = 1; unfold pgsN; rw [if_neg (by omega)]
      have hf' : Fit W P 0 (ins (fresh p c 0 0) m) := Fit.lay ok ho (by rw [hk]; exact hl)
      have hK := kof_ins (Nat.zero_le 1) hf' ho
      have h0' : keptM v c (ins (fresh p c 0 0) m) = [] := by have := congrFun (congrFun hK v) c; unfold Kf at this; rw [this]; exact h0
      refine ⟨?_, hf'.someM v c hv hc, ?_⟩
      · show Kf (someM v c (ins (fresh p c 0 0) m)) = upd (Kf m) v c ((freeP c (ins (fresh p c 0 0) m)).take 4)
        rw [kof_some hf' hv hc h0', hK]
      · show some _ = if (freeP c (ins (fresh p c 0 0) m)).take 4 = [] then none else some (someM v c (ins (fresh p c 0 0) m))
        rw [if_neg (take_ne _ (hslots p))]
  · have eR : someRes P v c m = ((freeP c m).take 4, someM v c m) := by unfold someRes; rw [if_pos hfr]
    have eF : fillM P v c m = some (someM v c m) := by unfold fillM; rw [if_neg (by simp [h0]), if_pos hfr]
    rw [eR, eF]
    exact ⟨kof_some ho hv hc h0, ho.someM v c hv hc, by rw [if_neg (take_ne _ hfr)]⟩
/-- What is taken stays taken. -/
theorem turn_f {g : Nat → Nat → Nat → Nat} {s : Sg} (h : ∀ j x, s.st[j]? = some x → (g (s.at j) s.cl x = 0 ↔ x = 0)) : (s.turn g).f = s.f := by
  funext j
  have e : (s.turn g).st[j]? = (s.st[j]?).map (fun x => g (s.at j) s.cl x) := by
    show (gS g s 0 s.st)[j]? = _
    rw [gS_at]; simp
  unfold Sg.f
  rw [decide_eq_decide]
  simp only [List.getD, e]
  cases hx : s.st[j]? with
  | none => rfl
  | some x =>
    have := h j x hx
    show g (s.at j) s.cl x ≠ 0 ↔ x ≠ 0
    omega
end Go.Proofs.YtgmljgogmbaioaaGreatDoor

/- Plain mathematics of layer 11, going on: what workers keep behind Give and Flush. -/
namespace Go.Proofs.YtgmljgogmbaioaaGreatDoor
set_option linter.unusedVariables false
set_option maxRecDepth 4000

/-- Slots that a worker kept are free. -/
theorem kf_free {W P v c : Nat} {m : List Sg} (hf : Fit W P 0 m) (T l : List Nat) (hT : ∀ x ∈ T, x ∈ keptM v c m) (hl : l.Pairwise (· < ·)) (hm : ∀ x, x ∈ l ↔ x ∈ keptM v c m ∧ x ∉ T) : Kf (setsM T 0 m) = upd (Kf m) v c l := by
  have hf' : Fit W P 0 (setsM T 0 m) := hf.sets T 0 (by omega) (fun _ _ _ _ _ _ _ => by omega)
  funext v' c'
  unfold upd Kf
  split
  · rename_i e
    obtain ⟨rfl, rfl⟩ := e
    refine kept_is hf' hl (fun x => ?_)
    rw [hm, mem_keptM]
    constructor
    · rintro ⟨⟨z, hz⟩, hx⟩; exact ⟨z, sets_in.2 (.inr ⟨hx, hz⟩)⟩
    · rintro ⟨z, hz⟩
      rcases sets_in.1 hz with ⟨_, e, _⟩ | ⟨hx, hz⟩
      · omega
      · exact ⟨⟨z, hz⟩, hx⟩
  · rename_i hne
    refine kept_is hf' (pl_rises _ hf) (fun x => ?_)
    rw [mem_keptM]
    constructor
    · rintro ⟨z, hz⟩
      refine ⟨z, sets_in.2 (.inr ⟨fun hx => ?_, hz⟩)⟩
      obtain ⟨z', h'⟩ := mem_keptM.1 (hT x hx)
      have := hz.one hf h'
      exact hne ⟨by omega, this.2.1⟩
    · rintro ⟨z, hz⟩
      rcases sets_in.1 hz with ⟨_, e, _⟩ | ⟨_, hz⟩
      · omega
      · exact ⟨z, hz⟩
theorem kf_drop {W P v c : Nat} {m : List Sg} (hf : Fit W P 0 m) (k : Nat) : Kf (setsM ((keptM v c m).drop k) 0 m) = upd (Kf m) v c ((keptM v c m).take k) := by
  have hr : (keptM v c m).Pairwise (· < ·) := pl_rises _ hf
  refine kf_free hf _ _ (fun x hx => List.mem_of_mem_drop hx) (hr.sublist (List.take_sublist _ _)) (fun x => ?_)
  constructor
  · intro hx
    refine ⟨List.mem_of_mem_take hx, fun hd => ?_⟩
    have := hr
    rw [← List.take_append_drop k (keptM v c m), List.pairwise_append] at this
    have := this.2.2 x hx x hd
    omega
  · rintro ⟨h1, h2⟩
    rw [← List.take_append_drop k (keptM v c m)] at h1
    rcases List.mem_append.1 h1 with h | h
    · exact h
    · exact absurd h h2
/-- A live slot of a small class is kept. -/
theorem kf_give {W P v c a : Nat} {m : List Sg} (hf : Fit W P 0 m) (hv : v < W) (hc : c < 7) {z : Nat} (ha : In m a z c 1) {l : List Nat} (hl : l.Pairwise (· < ·)) (hm : ∀ x, x ∈ l ↔ x ∈ keptM v c m ∨ x = a) : Kf (setM a (v + 2) m) = upd (Kf m) v c l ∧ Fit W P 0 (setM a (v + 2) m) := by
  have hf' : Fit W P 0 (setM a (v + 2) m) := hf.set a (v + 2) (by omega) (fun z' c' x h e => by have := (h.one hf ha).2.1; omega)
  refine ⟨?_, hf'⟩
  funext v' c'
  unfold upd Kf
  split
  · rename_i e
    obtain ⟨rfl, rfl⟩ := e
    refine kept_is hf' hl (fun x => ?_)
    rw [hm, mem_keptM]
    constructor
    · rintro (⟨y, hy⟩ | rfl)
      · refine ⟨y, set_in.2 (.inr ⟨fun e => ?_, hy⟩)⟩
        subst e
        have := (hy.one hf ha).2.2; omega
      · exact ⟨z, set_in.2 (.inl ⟨rfl, rfl, 1, ha⟩)⟩
    · rintro ⟨y, hy⟩
      rcases set_in.1 hy with ⟨e, _⟩ | ⟨_, hy⟩
      · exact .inr e
      · exact .inl ⟨y, hy⟩
  · rename_i hne
    refine kept_is hf' (pl_rises _ hf) (fun x => ?_)
    rw [mem_keptM]
    constructor
    · rintro ⟨y, hy⟩
      refine ⟨y, set_in.2 (.inr ⟨fun e => ?_, hy⟩)⟩
      subst e
      have := (hy.one hf ha).2.2; omega
    · rintro ⟨y, hy⟩
      rcases set_in.1 hy with ⟨rfl, e, y', h'⟩ | ⟨_, hy⟩
      · have := h'.one hf ha
        exact absurd ⟨by omega, this.2.1⟩ hne
      · exact ⟨y, hy⟩
/-- The classes below k of a worker are free. -/
def flushK (w k : Nat) (m : List Sg) : List Sg := turnM (fun _ c x => if x = w + 2 ∧ c < k then 0 else x) m
theorem turn_congr {g g' : Nat → Nat → Nat → Nat} {m : List Sg} (h : ∀ s ∈ m, ∀ j x, s.st[j]? = some x → g (s.at j) s.cl x = g' (s.at j) s.cl x) : turnM g m = turnM g' m := by
  unfold turnM
  apply List.map_congr_left
  intro s hs
  unfold Sg.turn
  congr 1
  apply List.ext_getElem?
  intro j
  rw [gS_at, gS_at]
  rcases e : s.st[j]? with _ | x
  · rfl
  · simp only [Option.map_some, Nat.zero_add]
    rw [h s hs j x e]
theorem turn_id (m : List Sg) : turnM (fun _ _ x => x) m = m := by
  unfold turnM
  have : Sg.turn (fun _ _ x => x) = id := by funext s; unfold Sg.turn; rw [gS_same]; rfl
  rw [this, List.map_id]
theorem flushK_zero (w : Nat) (m : List Sg) : flushK w 0 m = m := by
  unfold flushK
  rw [turn_congr (g' := fun _ _ x => x) (fun s hs j x hx => by rw [if_neg (by omega)]), turn_id]
theorem flushK_all {W P : Nat} (w : Nat) {m : List Sg} (hf : Fit W P 0 m) : flushK w 7 m = flushM w m := by
  refine turn_congr (fun s hs j x hx => ?_)
  have ok := (hf.ok s hs).1
  have hx' := List.mem_of_getElem? hx
  by_cases e : x = w + 2
  · have : s.cl < 7 := by
      rcases Nat.lt_or_ge s.cl 7 with h | h
      · exact h
      · have := ok.l1 (by have := ok.c7; omega) x hx'; omega
    rw [if_pos ⟨e, this⟩, if_pos e]
  · rw [if_neg (fun h => e h.1), if_neg e]
theorem flushK_step {W P : Nat} (w k : Nat) {m : List Sg} (hf : Fit W P 0 m) (hf' : Fit W P 0 (flushK w k m)) : flushK w (k + 1) m = setsM (keptM w k (flushK w k m)) 0 (flushK w k m) := by
  unfold flushK setsM
  rw [turn_turn]
  refine turn_congr (fun s hs j x hx => ?_)
  have hin : In m (s.at j) s.z s.cl x := ⟨s, hs, j, hx, rfl, rfl, rfl⟩
  have key : s.at j ∈ keptM w k (turnM (fun _ c x => if x = w + 2 ∧ c < k then 0 else x) m) ↔ s.cl = k ∧ x = w + 2 := by
    rw [mem_keptM]
    constructor
    · rintro ⟨z, hz⟩
      obtain ⟨y, h1, h2⟩ := (turnM_in _ _ _ _ _ _).1 hz
      have := h1.one hf hin
      split at h2
      · omega
      · exact ⟨this.2.1.symm, by omega⟩
    · rintro ⟨rfl, rfl⟩
      exact ⟨s.z, (turnM_in _ _ _ _ _ _).2 ⟨_, hin, by rw [if_neg (by omega)]⟩⟩
  by_cases e : x = w + 2
  · by_cases e2 : s.cl < k
    · rw [if_pos (show x = w + 2 ∧ s.cl < k + 1 from ⟨e, by omega⟩), if_neg (fun h => by have := (key.1 h).1; omega), if_pos (show x = w + 2 ∧ s.cl < k from ⟨e, e2⟩)]
    · rw [if_neg (show ¬ (x = w + 2 ∧ s.cl < k) from fun h => e2 h.2)]
      by_cases e3 : s.cl = k
      · rw [if_pos (show x = w + 2 ∧ s.cl < k + 1 from ⟨e, by omega⟩), if_pos (key.2 ⟨e3, e⟩)]
      · rw [if_neg (fun h => by omega), if_neg (fun h => e3 (key.1 h).1)]
  · rw [if_neg (fun h => e h.1), if_neg (show ¬ (x = w + 2 ∧ s.cl < k) from fun h => e h.1), if_neg (fun h => e (key.1 h).2)]
theorem flushK_fit {W P : Nat} (w k : Nat) {m : List Sg} (hf : Fit W P 0 m) : Fit W P 0 (flushK w k m) := hf.turn _ (fun a z c x h => by
  have := h.bound hf
  split
  · omega
  · exact ⟨this.2.2.1, this.2.2.2.1⟩)
end Go.Proofs.YtgmljgogmbaioaaGreatDoor

/- Plain mathematics of layer 11, going on: a Large span is gone; a place is laid among places. -/
namespace Go.Proofs.YtgmljgogmbaioaaGreatDoor
set_option linter.unusedVariables false
set_option maxRecDepth 4000

theorem filter_one {W P : Nat} : ∀ {m : List Sg} {a i : Nat} (q : Sg → Bool), Fit W P a m → (hi : i < m.length) → (∀ t ∈ m, q t = false ↔ t = m[i]) → m.filter q = m.take i ++ m.drop (i + 1)
  | s :: l, a, 0, q, h, _, hq => by
    have hs : q s = false := (hq s List.mem_cons_self).2 rfl
    rw [List.filter_cons, if_neg (by rw [hs]; simp)]
    simp only [List.take_zero, List.nil_append, List.drop_succ_cons, List.drop_zero]
    refine List.filter_eq_self.2 (fun t ht => ?_)
    cases e : q t
    · have h1 : t = s := (hq t (List.mem_cons_of_mem _ ht)).1 e
      have h2 := (h.2.2.ok t ht).2.1
      have h3 := h.2.1.facts
      rw [h1] at h2
      omega
    · rfl
  | s :: l, a, i + 1, q, h, hi, hq => by
    have hi' : i < l.length := by simpa using hi
    have hs : q s = true := by
      cases e : q s
      · have h1 : s = l[i] := (hq s List.mem_cons_self).1 e
        have h2 := (h.2.2.ok _ (List.getElem_mem hi')).2.1
        have h3 := h.2.1.facts
        rw [← h1] at h2
        omega
      · rfl
    rw [List.filter_cons, if_pos hs, filter_one q h.2.2 hi' (fun t ht => hq t (List.mem_cons_of_mem _ ht))]
    simp
/-- The Large span that is given back. -/
theorem drop_list {W P b z : Nat} {m : List Sg} (h : Fit W P 0 m) (hb : In m b z 7 1) {i : Nat} (hf : FindM m (b : Nat) i) (hi : i < m.length) : dropM b m = m.take i ++ m.drop (i + 1) ∧ pgF (dropM b m) = turnU (pgF m) m[i].pg m[i].k false ∧ m[i].cl = 7 := by
  obtain ⟨s, hs, h7, h1, hq, hp⟩ := drop_one h hb
  have hin := (hf.in h hi).1 hb
  have e : m[i] = s := by
    have : (!decide (m[i].cl = 7 ∧ m[i].at 0 = b)) = false := by
      obtain ⟨j, k1, k2, _, k4⟩ := hin
      have hok := (h.ok _ (List.getElem_mem hi)).1
      have hl : m[i].st.length = 1 := by rw [hok.len, ← k4]; rfl
      have hj := (List.getElem?_eq_some_iff.1 k1).1
      have : j = 0 := by omega
      subst this
      simp [← k4, k2]
    exact (hq _ (List.getElem_mem hi)).1 this
  subst e
  exact ⟨filter_one _ h hi hq, hp, h7⟩
theorem kf_dropM {W P b z : Nat} {m : List Sg} (h : Fit W P 0 m) (hb : In m b z 7 1) : Kf (dropM b m) = Kf m := by
  funext v c
  refine kept_is (h.filter _) (pl_rises _ h) (fun x => ?_)
  show x ∈ keptM v c m ↔ _
  rw [mem_keptM]
  constructor
  · rintro ⟨y, hy⟩
    refine ⟨y, (drop_in h ⟨z, 1, hb⟩).2 ⟨fun e => ?_, hy⟩⟩
    subst e
    have := (hy.one h hb).2.2; omega
  · rintro ⟨y, hy⟩
    exact ⟨y, ((drop_in h ⟨z, 1, hb⟩).1 hy).2⟩
/-- A number laid in its place. -/
theorem put_rises {l : List Nat} {x i : Nat} (hl : l.Pairwise (· < ·)) (hx : x ∉ l) (hi : i ≤ l.length) (h1 : ∀ k (hk : k < l.length), k < i → (l[k] : Int) < (x : Nat)) (h2 : ∀ k (hk : k < l.length), i ≤ k → ((x : Nat) : Int) ≤ (l[k] : Int)) : (l.take i ++ x :: l.drop i).Pairwise (· < ·) ∧ ∀ y, y ∈ l.take i ++ x :: l.drop i ↔ y ∈ l ∨ y = x := by
  have t1 : ∀ y ∈ l.take i, y < x := fun y hy => by
    obtain ⟨k, hk, rfl⟩ := List.getElem_of_mem hy
    simp at hk
    rw [List.getElem_take]
    have := h1 k (by omega) (by omega)
    omega
  have t2 : ∀ y ∈ l.drop i, x < y := fun y hy => by
    have hy' := List.mem_of_mem_drop hy
    obtain ⟨k, hk, rfl⟩ := List.getElem_of_mem hy
    simp at hk
    rw [List.getElem_drop] at hy' ⊢
    have := h2 (i + k) (by omega) (by omega)
    have : l[i + k] ≠ x := fun e => hx (e ▸ hy')
    omega
  constructor
  · rw [List.pairwise_append, List.pairwise_cons]
    refine ⟨hl.sublist (List.take_sublist _ _), ⟨t2, hl.sublist (List.drop_sublist _ _)⟩, fun y hy z hz => ?_⟩
    rcases List.mem_cons.1 hz with rfl | hz
    · exact t1 y hy
    · have := t1 y hy; have := t2 z hz; omega
  · intro y
    rw [List.mem_append, List.mem_cons]
    constructor
    · rintro (h | h | h)
      · exact .inl (List.mem_of_mem_take h)
      · exact .inr h
      · exact .inl (List.mem_of_mem_drop h)
    · rintro (h | h)
      · rw [← List.take_append_drop i l] at h
        rcases List.mem_append.1 h with h | h
        · exact .inl h
        · exact .inr (.inr h)
      · exact .inr (.inl h)
end Go.Proofs.YtgmljgogmbaioaaGreatDoor
