/- What takeSome does. -/
import Derived.Test.YtgmljgogmbaioabGreatDoorKaG
import Derived.Test.YtgmljgogmbaioabGreatDoorSpJ
namespace Go.Proofs.YtgmljgogmbaioabGreatDoor
open Go.RowKit
set_option linter.unusedVariables false
set_option maxRecDepth 4000

theorem kfill_nil (w : World) : Calls Tryz.prog 35 #[.slice none 0 0, .pointer none] w fun e w' => e = .returned (.slice none 0 0) ∧ w = w' := by
  go_enter Tryz.func35, Tryz.ntmps35
  go_wp2
  go_loopw [0] (fun av wr => av = .slice none 0 0 ∧ w = wr) (fun _ _ => 0)
  case atStart => exact ⟨rfl, rfl⟩
  case round =>
    obtain ⟨rfl, rfl⟩ := hrel
    go_wp2_with (go_at_call 60; refine (take_nil _).mono ?_; rintro e w' ⟨rfl, rfl⟩)
    go_ret
    exact ⟨rfl, rfl⟩
theorem kfill_q (v : Nat) (p n : Nat) (s : Sg) (T S : Nat → Prop) (a : Option Addr) (l : List Nat) (cap W : Nat) (w : World) (hs : SpS w T p s) (ok : s.Ok W) (hT : Tabs w) (rt : Rt (s.pg : Int) (s.cl : Int) (s.bts : Int)) (hV : VAt w S 3 a (l.map numV) cap) (hS : ∀ k, w.heap.size ≤ k → S k) (ha : Apt T S) (hl : l.length ≤ 4) (hn : l.length = n) :
    Calls Tryz.prog 35 #[.slice a n cap, .pointer (some ⟨p, 0, none⟩)] w fun e w' => ∃ (a' : Option Addr) (cap' n' : Nat), e = .returned (.slice a' n' cap') ∧ (l ++ (plS s zQ 0 s.st).take (4 - l.length)).length = n' ∧ SpS w' T p { s with st := someSt v (4 - l.length) s.st } ∧ VAt w' S 3 a' ((l ++ (plS s zQ 0 s.st).take (4 - l.length)).map numV) cap' ∧ Tu (fun k => T k ∨ S k) w w' := by
  subst hn
  refine (kfill_any v p s T S a l cap W w hs ok hT rt hV hS ha hl).mono ?_
  rintro e w' ⟨a', cap', rfl, h⟩
  exact ⟨a', cap', _, rfl, rfl, h⟩
/-- A span's slots turned, and lists of the call's own. -/
theorem Cm.spannedT {w w' : World} {L : Nat → Nat} {cb fb hb : Nat} {a : Option Addr} {cap : Nat} {ps : List Nat} {sh : List Value} {P W : Nat} {φ : Nat → Bool} {m : List Sg} {K : Nat → Nat → List Nat} (h : Cm w L cb fb hb a cap ps sh P W φ m K) {a0 : Nat} (hf : Fit W P a0 m) (hW : W ≤ 8) (i : Nat) (hi : i < m.length) (hi' : i < ps.length) (st : List Nat) (ht : Tu (fun k => (L k = 5 + 2 * m[i].pg ∨ L k = 1000) ∨ w.heap.size ≤ k) w w')
    (hs : SpS w' (fun k => L k = 5 + 2 * m[i].pg) ps[i] { m[i] with st := st }) : Cm w' L cb fb hb a cap ps sh P W φ (m.set i { m[i] with st := st }) K := by
  have s := h.stayZ (fun l => l = 5 + 2 * m[i].pg ∨ l = 1000) (by omega) (Ext.refl _ _) ht
  refine ⟨s.tab, s.l0, s.l1, by rw [List.length_set]; exact s.box (by omega), s.lb, s.free (by omega), s.row (by omega), by rw [List.length_set]; exact h.plen, fun j hj => ?_, s.hrow (by omega), s.lh, h.shl, fun v c hv hc => s.shelf v c hv hc (by omega)⟩
  rw [List.length_set] at hj
  rw [List.getElem_set]
  by_cases e : i = j
  · subst e; simp only [if_true]; exact hs
  · simp only [if_neg e]
    refine s.spans j hj _ ?_
    have ok1 := (hf.ok _ (List.getElem_mem hj)).1.facts
    have ok2 := (hf.ok _ (List.getElem_mem hi)).1.facts
    rcases Nat.lt_or_gt_of_ne e with k | k
    · have := (hf.split hj).2 m[i] (by rw [List.mem_iff_getElem]; exact ⟨i, by simp; omega, by simp⟩)
      omega
    · have := (hf.split hi).2 m[j] (by rw [List.mem_iff_getElem]; exact ⟨j, by simp; omega, by simp⟩)
      omega
/-- Under way: the spans up to k were asked. -/
structure SomeW (L0 : Nat → Nat) (cb fb hb : Nat) (a : Option Addr) (cap : Nat) (ps : List Nat) (sh : List Value) (P W : Nat) (m : List Sg) (K : Nat → Nat → List Nat) (v c : Nat) (L : Nat → Nat) (w wr : World) (A : List Sg) (l : List Nat) (k : Nat) (a1 : Option Addr) (cap1 : Nat) : Prop where
  cm : Cm wr L0 cb fb hb a cap ps sh P W (pgF m) (A ++ m.drop k) K
  fit : Fit W P 0 (A ++ m.drop k)
  at' : SomeAt v c m A l k
  va : VAt wr (fun j => L0 j = 1000 ∧ w.heap.size ≤ j) 3 a1 (l.map numV) cap1
  mv : Mv L w L0 wr
theorem SomeW.get {L0 : Nat → Nat} {cb fb hb : Nat} {a : Option Addr} {cap : Nat} {ps : List Nat} {sh : List Value} {P W : Nat} {m : List Sg} {K : Nat → Nat → List Nat} {v c : Nat} {L : Nat → Nat} {w wr : World} {A : List Sg} {l : List Nat} {k : Nat} {a1 : Option Addr} {cap1 : Nat} (h : SomeW L0 cb fb hb a cap ps sh P W m K v c L w wr A l k a1 cap1) (hk : k < m.length) : ∃ hk' : k < (A ++ m.drop k).length, (A ++ m.drop k)[k] = m[k] := by
  have hl := h.at'.len
  refine ⟨by simp; omega, ?_⟩
  rw [List.getElem_append_right (by omega)]
  simp [hl]
theorem set_mid {A B : List Sg} {s t : Sg} {k : Nat} (hA : A.length = k) : (A ++ s :: B).set k t = A ++ t :: B := by
  subst hA
  rw [List.set_append]
  simp
/-- A span of the class was asked. -/
theorem SomeW.fill {L0 : Nat → Nat} {cb fb hb : Nat} {a : Option Addr} {cap : Nat} {ps : List Nat} {sh : List Value} {P W : Nat} {m : List Sg} {K : Nat → Nat → List Nat} {v c : Nat} {L : Nat → Nat} {w wr wn : World} {A : List Sg} {l : List Nat} {k : Nat} {a1 a2 : Option Addr} {cap1 cap2 : Nat} (h : SomeW L0 cb fb hb a cap ps sh P W m K v c L w wr A l k a1 cap1) (hk : k < m.length) (hW : W ≤ 8) (hv : v < W) (hc7 : c < 7) (hc : m[k].cl = c) (hL0 : ∀ j, w.heap.size ≤ j → L0 j = 1000) {p : Nat} (hp : ps[k]? = some p)
    (hs : SpS wn (fun j => L0 j = 5 + 2 * m[k].pg) p { m[k] with st := someSt v (4 - l.length) m[k].st }) (hva : VAt wn (fun j => (L0 j = 1000 ∧ w.heap.size ≤ j) ∨ wr.heap.size ≤ j) 3 a2 ((l ++ (plS m[k] zQ 0 m[k].st).take (4 - l.length)).map numV) cap2) (ht : Tu (fun j => L0 j = 5 + 2 * m[k].pg ∨ ((L0 j = 1000 ∧ w.heap.size ≤ j) ∨ wr.heap.size ≤ j)) wr wn) :
    SomeW L0 cb fb hb a cap ps sh P W m K v c L w wn (A ++ [{ m[k] with st := someSt v (4 - l.length) m[k].st }]) (l ++ (plS m[k] zQ 0 m[k].st).take (4 - l.length)) (k + 1) a2 cap2 := by
  obtain ⟨hk', hg⟩ := h.get hk
  have hl := h.at'.len
  have hd := List.drop_eq_getElem_cons hk
  have hwr := h.mv.tu.size
  have e0 : (A ++ [({ m[k] with st := someSt v (4 - l.length) m[k].st } : Sg)]) ++ m.drop (k + 1) = (A ++ m.drop k).set k { (A ++ m.drop k)[k] with st := someSt v (4 - l.length) m[k].st } := by
    rw [hg, hd, set_mid hl]; simp
  have hpl : k < ps.length := by rw [h.cm.plen]; exact hk'
  have hpe : ps[k] = p := by rw [List.getElem?_eq_getElem hpl] at hp; exact Option.some.inj hp
  have ht' : Tu (fun j => (L0 j = 5 + 2 * m[k].pg ∨ L0 j = 1000) ∨ wr.heap.size ≤ j) wr wn := ht.mono (fun j _ hj => by rcases hj with e | e | e; exact .inl (.inl e); exact .inl (.inr e.1); exact .inr e)
  refine ⟨?_, ?_, h.at'.fill hk hc, hva.mono (fun j _ hj => ?_), h.mv.trans (Mv.of (fun l => l = 5 + 2 * m[k].pg ∨ l = 1000) (by omega) (Ext.refl _ _) ht')⟩
  · rw [e0]
    refine h.cm.spannedT h.fit hW k hk' hpl _ ?_ ?_
    · rw [hg]; exact ht'
    · simp only [hg, hpe]; exact hs
  · rw [e0]
    refine h.fit.set_st _ hk' ?_
    rw [hg]
    have ok := (h.fit.ok _ (List.getElem_mem hk')).1
    rw [hg] at ok
    refine ok.with _ (someSt_len _ _ _) (fun x hx => ?_) (fun e => by omega)
    rcases someSt_mem hx with hx | hx
    · exact ok.w2 x hx
    · omega
  · rcases hj with e | e
    · exact e
    · exact ⟨hL0 j (by omega), by omega⟩
end Go.Proofs.YtgmljgogmbaioabGreatDoor
