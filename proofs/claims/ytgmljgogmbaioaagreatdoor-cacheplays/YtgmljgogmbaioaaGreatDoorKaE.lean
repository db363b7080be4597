/- What fill and end do. -/
import Derived.Test.YtgmljgogmbaioaaGreatDoorKaCD
import Derived.Test.YtgmljgogmbaioaaGreatDoorPuB
import Derived.Test.YtgmljgogmbaioaaGreatDoorRuO
import Derived.Test.YtgmljgogmbaioaaGreatDoorRuLM
import Derived.Test.YtgmljgogmbaioaaGreatDoorRuN
namespace Go.Proofs.YtgmljgogmbaioaaGreatDoor
open Go.RowKit
set_option linter.unusedVariables false
set_option maxRecDepth 4000

def lenV : Value → Nat
  | .slice _ n _ => n
  | _ => 0
/-- Two sets of blocks apart from one another and from the tables. -/
structure Apt (T S : Nat → Prop) : Prop where
  dis : ∀ k, T k → ¬ S k
  t0 : ¬ T 0
  t1 : ¬ T 1
  s0 : ¬ S 0
  s1 : ¬ S 1
structure FillAt (v p : Nat) (s : Sg) (T S : Nat → Prop) (l : List Nat) (w wr : World) (a1 : Option Addr) (cap1 : Nat) (l1 st1 : List Nat) : Prop where
  sp : SpS wr T p { s with st := st1 }
  va : VAt wr S 3 a1 (l1.map numV) cap1
  tu : Tu (fun k => T k ∨ S k) w wr
  tab : Tabs wr
  four : l1.length ≤ 4
  e1 : l1 ++ (plS s zQ 0 st1).take (4 - l1.length) = l ++ (plS s zQ 0 s.st).take (4 - l.length)
  e2 : someSt v (4 - l1.length) st1 = someSt v (4 - l.length) s.st
  len : st1.length = s.st.length
theorem FillAt.full {v p : Nat} {s : Sg} {T S : Nat → Prop} {l : List Nat} {w wr : World} {a1 : Option Addr} {cap1 : Nat} {l1 st1 : List Nat} (h : FillAt v p s T S l w wr a1 cap1 l1 st1) (h4 : l1.length = 4 ∨ ∀ x ∈ st1, x ≠ 0) :
    l1 = l ++ (plS s zQ 0 s.st).take (4 - l.length) ∧ st1 = someSt v (4 - l.length) s.st := by
  have e1 := h.e1
  have e2 := h.e2
  rcases h4 with h4 | h4
  · rw [h4, Nat.sub_self] at e1 e2
    rw [some_zero] at e2
    exact ⟨by simpa using e1, e2⟩
  · obtain ⟨z1, z2⟩ := no_zero s v st1 0 h4
    rw [z1] at e1
    rw [z2] at e2
    exact ⟨by simpa using e1, e2⟩
theorem Tabs.only {w w' : World} {g : Nat} (h : Tabs w) (ho : Only g w w') (h0 : g ≠ 0) (h1 : g ≠ 1) : Tabs w' := h.tu (Tu.ofOnly (S := fun k => k = g) ho rfl) (fun e => h0 e.symm) (fun e => h1 e.symm)
/-- A slot more is taken. -/
theorem FillAt.next {v p : Nat} {s : Sg} {T S : Nat → Prop} {l : List Nat} {w wr : World} {a1 : Option Addr} {cap1 : Nat} {l1 st1 : List Nat} (h : FillAt v p s T S l w wr a1 cap1 l1 st1) (h4 : l1.length < 4) {j : Nat} (hj : st1[j]? = some 0) (hk : ∀ k, k < j → st1[k]? ≠ some 0)
    {wn : World} {a2 : Option Addr} {cap2 : Nat} (hs : SpS wn T p { s with st := st1.set j (v + 2) }) (hv : VAt wn S 3 a2 ((l1 ++ [s.at j]).map numV) cap2) (ht : Tu (fun k => T k ∨ S k) w wn) (hb : Tabs wn) : FillAt v p s T S l w wn a2 cap2 (l1 ++ [s.at j]) (st1.set j (v + 2)) := by
  obtain ⟨z1, z2⟩ := first_zero s v st1 0 j hj hk
  rw [Nat.zero_add] at z1
  refine ⟨hs, hv, ht, hb, by simp; omega, ?_, ?_, by rw [List.length_set]; exact h.len⟩
  · rw [← h.e1, z1, show 4 - l1.length = (4 - (l1 ++ [s.at j]).length) + 1 by simp; omega, List.take_succ_cons]
    simp
  · rw [← h.e2, show 4 - l1.length = (4 - (l1 ++ [s.at j]).length) + 1 by simp; omega, z2]
theorem take_first {s : Sg} {st : List Nat} {n : Nat} {j : Nat} (hn : st.length = n) (hj : j < n) (h0 : Sg.f { s with st := st } j = false) (hk : ∀ k, k < j → Sg.f { s with st := st } k = true) : st[j]? = some 0 ∧ ∀ k, k < j → st[k]? ≠ some 0 := by
  have key : ∀ k x, st[k]? = some x → Sg.f { s with st := st } k = decide (x ≠ 0) := fun k x h => Sg.f_at (s := { s with st := st }) h
  obtain ⟨x, hx⟩ : ∃ x, st[j]? = some x := ⟨_, List.getElem?_eq_getElem (by omega)⟩
  refine ⟨?_, fun k hkj e => ?_⟩
  · rw [key j x hx] at h0
    have := of_decide_eq_false h0
    rw [hx]; congr 1; omega
  · have := hk k hkj
    rw [key k 0 e] at this
    simp at this
set_option maxHeartbeats 2000000 in
theorem kfill_any (v : Nat) (p : Nat) (s : Sg) (T S : Nat → Prop) (a : Option Addr) (l : List Nat) (cap W : Nat) (w : World) (hs : SpS w T p s) (ok : s.Ok W) (hT : Tabs w) (rt : Rt (s.pg : Int) (s.cl : Int) (s.bts : Int)) (hV : VAt w S 3 a (l.map numV) cap) (hS : ∀ k, w.heap.size ≤ k → S k) (ha : Apt T S) (hl : l.length ≤ 4) :
    Calls Tryz.prog 97 #[.slice a l.length cap, .pointer (some ⟨p, 0, none⟩)] w fun e w' => ∃ a' cap', e = .returned (.slice a' (l ++ (plS s zQ 0 s.st).take (4 - l.length)).length cap') ∧ SpS w' T p { s with st := someSt v (4 - l.length) s.st } ∧ VAt w' S 3 a' ((l ++ (plS s zQ 0 s.st).take (4 - l.length)).map numV) cap' ∧ Tu (fun k => T k ∨ S k) w w' := by
  have F0 : Hid (FillAt v p s T S l w w a cap l s.st) := ⟨hs, hV, Tu.refl _ _, hT, hl, rfl, rfl, rfl⟩
  have HS : Hid (∀ k, w.heap.size ≤ k → S k) := hS
  have HA : Hid (Apt T S) := ha
  have OK : Hid (s.Ok W) := ok
  have RT : Hid (Rt (s.pg : Int) (s.cl : Int) (s.bts : Int)) := rt
  clear hs ok hT rt hV hS ha
  go_enter Tryz.func97, Tryz.ntmps97
  go_wp2
  go_loopw [0] (fun av wr => ∃ a1 cap1 l1 st1, av = .slice a1 (List.length l1) cap1 ∧ FillAt v p s T S l w wr a1 cap1 l1 st1) (fun av _ => 4 - lenV av)
  case atStart => exact ⟨a, cap, l, s.st, rfl, F0.out⟩
  case round =>
    obtain ⟨a1, cap1, l1, st1, rfl, hF⟩ := hrel
    rename World => wr
    have HF : Hid (FillAt v p s T S l w wr a1 cap1 l1 st1) := hF
    have h4 := hF.four
    obtain ⟨bb, gg, k0, k1, k2, k3⟩ := hF.sp
    have KS : Hid (SpanAt wr p bb gg (s.pg : Int) (s.cl : Int) (s.bts : Int) (Sg.f { s with st := st1 })) := k0
    have KT : Hid (T p ∧ T bb ∧ T gg) := ⟨k1, k2, k3⟩
    obtain ⟨n1, hn1⟩ : ∃ n1, l1.length = n1 := ⟨_, rfl⟩
    have EN : Hid (l1.length = n1) := hn1
    rw [hn1] at h4 ⊢
    clear hF k0 k1 k2 k3 hn1
    by_cases hlt : n1 < 4
    · have hlt' : (n1 : Int) < 4 := by omega
      go_wp2_with fail
      refine (take_any p bb gg _ _ _ _ _ KS.out HF.out.tab.2).mono ?_
      rintro e w1 ⟨r, okk, f', rfl, hR, s1, o1⟩
      have S1 : Hid (SpanAt w1 p bb gg (s.pg : Int) (s.cl : Int) (s.bts : Int) f') := s1
      have O1 : Hid (Only gg wr w1) := o1
      have hlen : slN (s.cl : Int) = st1.length := by rw [HF.out.len]; exact OK.out.len.symm
      rcases hR with ⟨rfl, j, rfl, hj, hj0, hjk, hf'⟩ | ⟨rfl, rfl, hall, hf'⟩
      · rw [hlen] at hj
        obtain ⟨z1, z2⟩ := take_first (s := s) rfl hj hj0 hjk
        have Z1 : Hid (st1[j]? = some 0 ∧ ∀ k, k < j → st1[k]? ≠ some 0) := ⟨z1, z2⟩
        have SP : Hid (SpS w1 T p { s with st := st1.set j (v + 2) }) := ⟨bb, gg, by
          have : Sg.f { s with st := st1.set j (v + 2) } = f' := by
            rw [hf']
            have := f_set (s := { s with st := st1 }) (j := j) (v := v + 2) hj
            rw [this]
            funext x
            unfold put
            by_cases e : x = j
            · simp [e]
            · simp [e]
          rw [this]; exact S1.out, KT.out⟩
        have HJ : Hid (j < slN (s.cl : Int)) := by rw [hlen]; exact hj
        have TB : Hid (Tabs w1) := HF.out.tab.only O1.out (fun e => HA.out.t0 (e ▸ KT.out.2.2)) (fun e => HA.out.t1 (e ▸ KT.out.2.2))
        have VA : Hid (VAt w1 S 3 a1 (l1.map numV) cap1) := HF.out.va.same (old_only O1.out (HA.out.dis _ KT.out.2.2))
        have EX : Hid ((256 * (s.pg : Int) + (j : Int) * szI (s.cl : Int) (s.bts : Int)) = ((s.at j : Nat) : Int)) := by
          show _ = _
          rw [OK.out.facts.2.2.2.2.2.2.2]; unfold Sg.at; rw [Int.natCast_add, Int.natCast_mul, Int.natCast_mul]; rfl
        obtain ⟨x, hx⟩ : ∃ x, s.at j = x := ⟨_, rfl⟩
        have EXX : Hid (s.at j = x) := hx
        rw [hx] at EX
        clear hx s1 o1 hlen hj hj0 hjk hf' z1 z2
        have B2 : Hid (Below w1.heap.size w1 (w1.alloc (.cells #[.int .i64 (x : Nat)] 3))) := (Below.refl _ w1).alloc (Nat.le_refl _) _
        have HZ : Hid (w.heap.size ≤ wr.heap.size ∧ w1.heap.size = wr.heap.size) := ⟨HF.out.tu.size, O1.out.size⟩
        have HS2 : Hid (∀ k, (w1.alloc (.cells #[.int .i64 (x : Nat)] 3)).heap.size ≤ k → S k) := fun k hk => HS.out k (by have := B2.out.size; have := HZ.out; omega)
        have HQ : Hid ((w1.alloc (.cells #[.int .i64 (x : Nat)] 3)).cell? ⟨w1.heap.size, 0, none⟩ = some (.int .i64 (x : Nat))) := cell_of_row _ _ 0 _ _ _ (Go.heap_alloc_new w1 _)
        go_wp2_with (first
          | (go_at_call 86; refine (at_in p _ _ _ j _ S1.out.box TB.out.1 RT.out HJ.out).mono ?_; rw [EX.out]; rintro e w2 ⟨rfl, rfl⟩)
          | (at_builtin; refine wpList_appN 34 3 (.int .i64 0) rfl Tryz.underlying34 Tryz.info3 rfl _ _ rfl S HS2.out a1 n1 (l1.map numV) (by rw [List.length_map]; exact EN.out) cap1 rfl (VA.out.keep B2.out) ⟨w1.heap.size, 0, none⟩ (.int .i64 (x : Nat)) 1 rfl HQ.out rfl (by rw [List.length_map, EN.out]; omega) ?_))
        intro a2 cap2 w3 r1 r2 r3
        have ob1 : ∀ k, ob a1 = some k → S k := fun k hk => by
          rcases VA.out with ⟨e, _⟩ | ⟨g, cur, e, hg, _⟩
          · rw [e] at hk; cases hk
          · rw [e] at hk; cases hk; exact hg
        have T3 : Hid (Tu S w1 w3) := (Tu.ofBelow B2.out).trans (r2.mono (fun k _ hk => ob1 k hk))
        have NX : Hid (FillAt v p s T S l w w3 a2 cap2 (l1 ++ [s.at j]) (st1.set j (v + 2))) := by
          refine HF.out.next (by rw [EN.out]; exact hlt) Z1.out.1 Z1.out.2 (SP.out.same (old_tu T3.out (fun k _ hk => HA.out.dis k hk)) T3.out.size) ?_ (HF.out.tu.trans ((Tu.ofOnly (S := fun k => T k ∨ S k) O1.out (.inl KT.out.2.2)).trans (T3.out.mono (fun k _ hk => .inr hk)))) (TB.out.tu T3.out HA.out.s0 HA.out.s1)
          rw [EXX.out, List.map_append]; exact r1
        clear r1 r2 r3 ob1
        go_wp2
        go_roundw
        case rel => exact ⟨a2, cap2, l1 ++ [s.at j], st1.set j (v + 2), by rw [List.length_append, EN.out]; rfl, NX.out⟩
        case measure => simp [lenV]; omega
      · have FN : Hid (FillAt v p s T S l w w1 a1 cap1 l1 st1) := ⟨⟨bb, gg, by rw [← hf']; exact S1.out, KT.out⟩, HF.out.va.same (old_only O1.out (HA.out.dis _ KT.out.2.2)), HF.out.tu.trans (Tu.ofOnly O1.out (.inl KT.out.2.2)), HF.out.tab.only O1.out (fun e => HA.out.t0 (e ▸ KT.out.2.2)) (fun e => HA.out.t1 (e ▸ KT.out.2.2)), HF.out.four, HF.out.e1, HF.out.e2, HF.out.len⟩
        have FU : Hid (l1 = l ++ (plS s zQ 0 s.st).take (4 - l.length) ∧ st1 = someSt v (4 - l.length) s.st) := FN.out.full (.inr (fun x hx => by
          obtain ⟨k, hk, rfl⟩ := List.getElem_of_mem hx
          have := hall k (by rw [hlen]; exact hk)
          rw [Sg.f_at (s := { s with st := st1 }) (List.getElem?_eq_getElem hk)] at this
          exact of_decide_eq_true this))
        clear s1 o1 hlen hall hf'
        go_wp2
        go_ret
        refine ⟨a1, cap1, ?_, ?_, ?_, FN.out.tu⟩
        · rw [← FU.out.1, EN.out]; rfl
        · rw [← FU.out.2]; exact FN.out.sp
        · rw [← FU.out.1]; exact FN.out.va
    · obtain rfl : n1 = 4 := by omega
      have FU : Hid (l1 = l ++ (plS s zQ 0 s.st).take (4 - l.length) ∧ st1 = someSt v (4 - l.length) s.st) := HF.out.full (.inl EN.out)
      go_wp2
      go_ret
      refine ⟨a1, cap1, ?_, ?_, ?_, HF.out.tu⟩
      · rw [← FU.out.1, EN.out]; rfl
      · rw [← FU.out.2]; exact HF.out.sp
      · rw [← FU.out.1]; exact HF.out.va
end Go.Proofs.YtgmljgogmbaioaaGreatDoor
