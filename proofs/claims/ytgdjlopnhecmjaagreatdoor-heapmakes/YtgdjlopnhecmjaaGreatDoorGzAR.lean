/- Layer 15: RuM again -/
import Derived.Test.YtgdjlopnhecmjaaGreatDoorGzAQ
import Derived.Test.YtgdjlopnhecmjaaGreatDoorGzAJ
import Derived.Test.YtgdjlopnhecmjaaGreatDoorGzAP
namespace Go.Proofs.YtgdjlopnhecmjaaGreatDoor
open Go.RowKit
set_option linter.unusedVariables false
set_option maxRecDepth 4000
set_option maxHeartbeats 4000000 in
theorem ugive_any (S : Nat → Prop) (b n : Nat) (f : Nat → Bool) (x k : Int) (w : World) (h : IsR w S b n f) (hS : ∀ i, w.heap.size ≤ i → S i) (hn : n ≤ 65536) (hx : -9223372036854775808 ≤ x ∧ x ≤ 9223372036854775807) (hk : -9223372036854775808 ≤ k ∧ k ≤ 9223372036854775807) :
    Calls Tryz.prog 201 #[.pointer (some ⟨b, 0, none⟩), .int .i64 x, .int .i64 k] w fun e w' => ∃ r f', e = .returned (.int .i64 r) ∧ TurnR n f x k false r f' ∧ IsR w' S b n f' ∧ Tu S w w' := by
  have H : Hid (IsR w S b n f) := h
  by_cases hb : badE n x k
  · have HB : Hid (badE n x k) := hb
    clear hb h
    go_enter Tryz.func201, Tryz.ntmps201
    go_wp2_with (go_at_call 228; refine (check_bad S b n f x k _ H.out hn hx hk HB.out).mono ?_; rintro e w' ⟨rfl, rfl⟩)
    go_ret
    exact ⟨2, f, rfl, .inl ⟨HB.out, rfl, rfl⟩, H.out, Tu.refl _ _⟩
  · unfold badE at hb
    obtain ⟨p, rfl⟩ : ∃ p : Nat, x = p := ⟨x.toNat, by omega⟩
    obtain ⟨q, rfl⟩ : ∃ q : Nat, k = q := ⟨k.toNat, by omega⟩
    have hq1 : 1 ≤ q := by omega
    have hpq : p + q ≤ n := by omega
    have FLL := freeL_FL f n
    have hll := freeL_len f n
    unfold IsR at h
    obtain ⟨L, hL⟩ : ∃ L, freeL f n = L := ⟨_, rfl⟩
    have HL : Hid (freeL f n = L) := hL
    rw [hL] at h hll FLL
    have HF : Hid (FL n f L) := FLL
    obtain ⟨wz, hwz⟩ : ∃ wz, w.alloc (.cells #[.int .i64 (p : Nat), .int .i64 (q : Nat)] 260) = wz := ⟨_, rfl⟩
    have BZ : Hid (Below w.heap.size w wz) := by show Below _ _ _; rw [← hwz]; exact (Below.refl _ w).alloc (Nat.le_refl _) _
    have QZ : Hid (wz.heap[w.heap.size]? = some (.cells #[.int .i64 (p : Nat), .int .i64 (q : Nat)] 260 (0, 0))) := by show _ = _; rw [← hwz]; exact Go.heap_alloc_new w _
    have AZ : Hid (At w S b n L) := h
    clear hb hL h FLL
    go_enter Tryz.func201, Tryz.ntmps201
    go_upto_region 6 with (first
      | (go_at_call 228; refine (ccheck_ok S b n f p q _ H.out hn hq1 hpq).mono ?_; rintro e w' ⟨rfl, rfl⟩)
      | (go_at_call 229; refine (find_any S b n p f L _ (AZ.out.keep BZ.out) HF.out hn (by omega)).mono ?_; rintro e w1 ⟨i, hFi, rfl, b1⟩; have FI : Hid (FindOK L p i) := hFi; have hil := hFi.1; have BW : Hid (Below w.heap.size w w1) := BZ.out.trans (b1.mono BZ.out.size); have QW : Hid (w1.heap[w.heap.size]? = some (.cells #[.int .i64 (p : Nat), .int .i64 (q : Nat)] 260 (0, 0))) := (by show _ = _; rw [b1.block _ (Array.getElem?_eq_some_iff.1 QZ.out).1]; exact QZ.out); clear hFi b1))
    obtain ⟨c, hc⟩ : ∃ c : Bool, c = true ↔ (∃ h : i < L.length, L[i].1 < p + q) := by
      by_cases e : ∃ h : i < L.length, L[i].1 < p + q
      · exact ⟨true, by simp [e]⟩
      · exact ⟨false, by simp [e]⟩
    have HC : Hid (c = true ↔ (∃ h : i < L.length, L[i].1 < p + q)) := hc
    clear hc
    go_cut [42] from 23 to 42 (fun v wx => v = .bool c ∧ Below w1.heap.size w1 wx)
    case first =>
      by_cases hil2 : i = L.length
      · have hcf : c = false := by
          cases e : c
          · rfl
          · obtain ⟨h1, _⟩ := HC.out.1 e; omega
        subst hcf
        have B0 : Hid (Below w1.heap.size w1 w1.drew) := (Below.refl _ w1).drew
        obtain ⟨a, cap, hB⟩ := AZ.out.keep BW.out
        have c1 := hB.cell1
        obtain ⟨l, hll2⟩ : ∃ l, L.length = l := ⟨_, rfl⟩
        rw [hll2] at c1 hil2 hll
        subst hil2
        clear HC hll2 hB hil
        go_quiet (fail)
        all_goals go_wp2
        all_goals go_meet
        all_goals exact ⟨rfl, below_drewN' B0.out _⟩
      · have hi1 : i < L.length := by omega
        obtain ⟨a, cap, hB⟩ := AZ.out.keep BW.out
        have c1 := hB.cell1
        obtain ⟨g, rfl, _, hgl, d0, d1⟩ := hB.run hi1
        have hbd := (HF.out.pos L[i] (List.getElem_mem hi1)).2
        have HD2 : Hid (c = decide (L[i].1 < p + q)) := by
          show _ = _
          cases e : c
          · refine (decide_eq_false (fun e' => ?_)).symm
            have := HC.out.2 ⟨hi1, e'⟩
            rw [e] at this; cases this
          · exact (decide_eq_true (HC.out.1 e).2).symm
        obtain ⟨x, hx⟩ : ∃ x, L[i] = x := ⟨_, rfl⟩
        rw [hx] at d0 d1 hbd HD2
        obtain ⟨x1, x2⟩ := x
        simp only at d0 d1 hbd HD2
        obtain ⟨t, ht⟩ : ∃ t, p + q = t := ⟨_, rfl⟩
        have ET : Hid (p + q = t) := ht
        rw [ht] at HD2 hpq
        have u0 : w1.cell? ⟨w.heap.size, 0, none⟩ = some (.int .i64 (p : Nat)) := cell_of_row _ _ 0 _ _ _ QW.out
        have u1 : w1.cell? ⟨w.heap.size, 1, none⟩ = some (.int .i64 (q : Nat)) := cell_of_row _ _ 1 _ _ _ QW.out
        have hj : (i : Int) < (L.length : Int) := by omega
        have hj0 : (0 : Int) ≤ (i : Int) := by omega
        have B1 : Hid (Below w1.heap.size w1 (w1.drew.alloc (.cells #[.int .i64 (p : Nat), .int .i64 (q : Nat)] 260))) := (Below.refl _ w1).drew.alloc (Nat.le_refl _) _
        have nd := World.new_ne w1 _ d0
        have nu := World.new_ne w1 _ u0
        have nb := World.new_ne w1 _ c1
        clear hx ht HC hil2 hB
        go_region_held3 (fun w' => w'.cell? ⟨b, 1, none⟩ = some (.slice (some ⟨g, 0, none⟩) L.length cap) ∧ w'.cell? ⟨g, i * 2, none⟩ = some (.int .i64 (x1 : Nat)) ∧ w'.cell? ⟨w.heap.size, 0, none⟩ = some (.int .i64 (p : Nat)) ∧ w'.cell? ⟨w.heap.size, 1, none⟩ = some (.int .i64 (q : Nat))) (go_keep)
          ((go_at_call 230; refine (end_any p q _ (by have := ET.out; omega)).mono ?_; rw [ET.out]; rintro e w' ⟨rfl, rfl⟩))
        all_goals go_wp2
        all_goals go_meet
        all_goals exact ⟨by rw [HD2.out], B1.out⟩
    case rest =>
      obtain ⟨rfl, bw⟩ := hcut
      have QC : Hid (wc.heap[w.heap.size]? = some (.cells #[.int .i64 (p : Nat), .int .i64 (q : Nat)] 260 (0, 0))) := by show _ = _; rw [bw.block _ (Array.getElem?_eq_some_iff.1 QW.out).1]; exact QW.out
      have BC : Hid (Below w.heap.size w wc) := BW.out.trans (bw.mono BW.out.size)
      have u0 : wc.cell? ⟨w.heap.size, 0, none⟩ = some (.int .i64 (p : Nat)) := cell_of_row _ _ 0 _ _ _ QC.out
      have u1 : wc.cell? ⟨w.heap.size, 1, none⟩ = some (.int .i64 (q : Nat)) := cell_of_row _ _ 1 _ _ _ QC.out
      have hpi : (1 : Int) ≤ (q : Int) ∧ (0 : Int) ≤ (p : Int) ∧ (p : Int) + (q : Int) ≤ (n : Int) := by omega
      have HPI : Hid ((1 : Int) ≤ (q : Int) ∧ (0 : Int) ≤ (p : Int) ∧ (p : Int) + (q : Int) ≤ (n : Int)) := hpi
      clear bw hpi
      cases c
      · have GO : Hid (∀ h : i < L.length, p + q ≤ L[i].1) := fun h => by
          rcases Nat.lt_or_ge L[i].1 (p + q) with h' | h'
          · have := HC.out.2 ⟨h, h'⟩; cases this
          · exact h'
        have AF : Hid (AllF f p q true) := HF.out.give_ok FI.out hpq GO.out
        have TR : Hid (TurnR n f p q false 0 (turnU f p q false)) := .inr (.inr ⟨HPI.out.1, HPI.out.2.1, HPI.out.2.2, by simpa using AF.out, rfl, by simp⟩)
        clear HC
        go_wp2_with (go_at_call 237; refine (join_any S b n i p q L _ (AZ.out.keep BC.out) (fun k hk => hS k (by have := BC.out.size; omega)) hil (by omega) (fun r hr => by have := (HF.out.pos r hr).2; omega) (by omega) hq1).mono ?_; rintro e w9 ⟨rfl, ⟨fr, ua, um, tt, ul, hf1, hf2, h9⟩, t9⟩; have I9 : Hid (IsR w9 S b n (turnU f p q false)) := IsR.of h9 (join_is HF.out FI.out hq1 hpq GO.out hf1 hf2); have T9 : Hid (Tu S w w9) := (Tu.ofBelow BC.out).trans t9; clear hf1 hf2 h9 t9)
        go_ret
        exact ⟨0, turnU f p q false, rfl, TR.out, I9.out, T9.out⟩
      · have NF : Hid (¬ AllF f p q true) := fun ha => by
          obtain ⟨h1, h2⟩ := HC.out.1 rfl
          have := HF.out.give_no FI.out hq1 ha h1
          omega
        have TR : Hid (TurnR n f p q false 9 f) := .inr (.inl ⟨HPI.out.1, HPI.out.2.1, HPI.out.2.2, by simpa using NF.out, rfl, rfl⟩)
        clear HC
        go_wp2
        go_ret
        exact ⟨9, f, rfl, TR.out, H.out.keep BC.out, Tu.ofBelow BC.out⟩
end Go.Proofs.YtgdjlopnhecmjaaGreatDoor

/- Layer 15: RuN again -/
namespace Go.Proofs.YtgdjlopnhecmjaaGreatDoor
open Go.RowKit
set_option linter.unusedVariables false
set_option maxRecDepth 4000
end Go.Proofs.YtgdjlopnhecmjaaGreatDoor

/- Layer 15: KaE again -/
namespace Go.Proofs.YtgdjlopnhecmjaaGreatDoor
open Go.RowKit
set_option linter.unusedVariables false
set_option maxRecDepth 4000
def lenV : Value → Nat
  | .slice _ n _ => n
  | _ => 0
/-- Two sets of blocks apart from one another and from the tables. -/
structure Apt (T S : Nat → Prop) : Prop where
  dis : ∀ k, T k → ¬ S k
  t0 : ¬ T 0
  t1 : ¬ T 1
  s0 : ¬ S 0
  s1 : ¬ S 1
structure FillAt (v p : Nat) (s : Sg) (T S : Nat → Prop) (l : List Nat) (w wr : World) (a1 : Option Addr) (cap1 : Nat) (l1 st1 : List Nat) : Prop where
  sp : SpS wr T p { s with st := st1 }
  va : VAt wr S 3 a1 (l1.map numV) cap1
  tu : Tu (fun k => T k ∨ S k) w wr
  tab : Tabs wr
  four : l1.length ≤ 4
  e1 : l1 ++ (plS s zQ 0 st1).take (4 - l1.length) = l ++ (plS s zQ 0 s.st).take (4 - l.length)
  e2 : someSt v (4 - l1.length) st1 = someSt v (4 - l.length) s.st
  len : st1.length = s.st.length
theorem FillAt.full {v p : Nat} {s : Sg} {T S : Nat → Prop} {l : List Nat} {w wr : World} {a1 : Option Addr} {cap1 : Nat} {l1 st1 : List Nat} (h : FillAt v p s T S l w wr a1 cap1 l1 st1) (h4 : l1.length = 4 ∨ ∀ x ∈ st1, x ≠ 0) :
    l1 = l ++ (plS s zQ 0 s.st).take (4 - l.length) ∧ st1 = someSt v (4 - l.length) s.st := by
  have e1 := h.e1
  have e2 := h.e2
  rcases h4 with h4 | h4
  · rw [h4, Nat.sub_self] at e1 e2
    rw [some_zero] at e2
    exact ⟨by simpa using e1, e2⟩
  · obtain ⟨z1, z2⟩ := no_zero s v st1 0 h4
    rw [z1] at e1
    rw [z2] at e2
    exact ⟨by simpa using e1, e2⟩
theorem Tabs.onlyC {w w' : World} {g : Nat} (h : Tabs w) (ho : Only g w w') (h0 : g ≠ 0) (h1 : g ≠ 1) : Tabs w' := h.tu (Tu.ofOnly (S := fun k => k = g) ho rfl) (fun e => h0 e.symm) (fun e => h1 e.symm)
/-- A slot more is taken. -/
theorem FillAt.next {v p : Nat} {s : Sg} {T S : Nat → Prop} {l : List Nat} {w wr : World} {a1 : Option Addr} {cap1 : Nat} {l1 st1 : List Nat} (h : FillAt v p s T S l w wr a1 cap1 l1 st1) (h4 : l1.length < 4) {j : Nat} (hj : st1[j]? = some 0) (hk : ∀ k, k < j → st1[k]? ≠ some 0)
    {wn : World} {a2 : Option Addr} {cap2 : Nat} (hs : SpS wn T p { s with st := st1.set j (v + 2) }) (hv : VAt wn S 3 a2 ((l1 ++ [s.at j]).map numV) cap2) (ht : Tu (fun k => T k ∨ S k) w wn) (hb : Tabs wn) : FillAt v p s T S l w wn a2 cap2 (l1 ++ [s.at j]) (st1.set j (v + 2)) := by
  obtain ⟨z1, z2⟩ := first_zero s v st1 0 j hj hk
  rw [Nat.zero_add] at z1
  refine ⟨hs, hv, ht, hb, by simp; omega, ?_, ?_, by rw [List.length_set]; exact h.len⟩
  · rw [← h.e1, z1, show 4 - l1.length = (4 - (l1 ++ [s.at j]).length) + 1 by simp; omega, List.take_succ_cons]
    simp
  · rw [← h.e2, show 4 - l1.length = (4 - (l1 ++ [s.at j]).length) + 1 by simp; omega, z2]
theorem take_first {s : Sg} {st : List Nat} {n : Nat} {j : Nat} (hn : st.length = n) (hj : j < n) (h0 : Sg.f { s with st := st } j = false) (hk : ∀ k, k < j → Sg.f { s with st := st } k = true) : st[j]? = some 0 ∧ ∀ k, k < j → st[k]? ≠ some 0 := by
  have key : ∀ k x, st[k]? = some x → Sg.f { s with st := st } k = decide (x ≠ 0) := fun k x h => Sg.f_at (s := { s with st := st }) h
  obtain ⟨x, hx⟩ : ∃ x, st[j]? = some x := ⟨_, List.getElem?_eq_getElem (by omega)⟩
  refine ⟨?_, fun k hkj e => ?_⟩
  · rw [key j x hx] at h0
    have := of_decide_eq_false h0
    rw [hx]; congr 1; omega
  · have := hk k hkj
    rw [key k 0 e] at this
    simp at this
set_option maxHeartbeats 2000000 in
theorem kfill_any (v : Nat) (p : Nat) (s : Sg) (T S : Nat → Prop) (a : Option Addr) (l : List Nat) (cap W : Nat) (w : World) (hs : SpS w T p s) (ok : s.Ok W) (hT : Tabs w) (rt : Rt (s.pg : Int) (s.cl : Int) (s.bts : Int)) (hV : VAt w S 3 a (l.map numV) cap) (hS : ∀ k, w.heap.size ≤ k → S k) (ha : Apt T S) (hl : l.length ≤ 4) :
    Calls Tryz.prog 192 #[.slice a l.length cap, .pointer (some ⟨p, 0, none⟩)] w fun e w' => ∃ a' cap', e = .returned (.slice a' (l ++ (plS s zQ 0 s.st).take (4 - l.length)).length cap') ∧ SpS w' T p { s with st := someSt v (4 - l.length) s.st } ∧ VAt w' S 3 a' ((l ++ (plS s zQ 0 s.st).take (4 - l.length)).map numV) cap' ∧ Tu (fun k => T k ∨ S k) w w' := by
  have F0 : Hid (FillAt v p s T S l w w a cap l s.st) := ⟨hs, hV, Tu.refl _ _, hT, hl, rfl, rfl, rfl⟩
  have HS : Hid (∀ k, w.heap.size ≤ k → S k) := hS
  have HA : Hid (Apt T S) := ha
  have OK : Hid (s.Ok W) := ok
  have RT : Hid (Rt (s.pg : Int) (s.cl : Int) (s.bts : Int)) := rt
  clear hs ok hT rt hV hS ha
  go_enter Tryz.func192, Tryz.ntmps192
  go_wp2
  go_loopw [0] (fun av wr => ∃ a1 cap1 l1 st1, av = .slice a1 (List.length l1) cap1 ∧ FillAt v p s T S l w wr a1 cap1 l1 st1) (fun av _ => 4 - lenV av)
  case atStart => exact ⟨a, cap, l, s.st, rfl, F0.out⟩
  case round =>
    obtain ⟨a1, cap1, l1, st1, rfl, hF⟩ := hrel
    rename World => wr
    have HF : Hid (FillAt v p s T S l w wr a1 cap1 l1 st1) := hF
    have h4 := hF.four
    obtain ⟨bb, gg, k0, k1, k2, k3⟩ := hF.sp
    have KS : Hid (SpanAt wr p bb gg (s.pg : Int) (s.cl : Int) (s.bts : Int) (Sg.f { s with st := st1 })) := k0
    have KT : Hid (T p ∧ T bb ∧ T gg) := ⟨k1, k2, k3⟩
    obtain ⟨n1, hn1⟩ : ∃ n1, l1.length = n1 := ⟨_, rfl⟩
    have EN : Hid (l1.length = n1) := hn1
    rw [hn1] at h4 ⊢
    clear hF k0 k1 k2 k3 hn1
    by_cases hlt : n1 < 4
    · have hlt' : (n1 : Int) < 4 := by omega
      go_wp2_with fail
      refine (take_any p bb gg _ _ _ _ _ KS.out HF.out.tab.2).mono ?_
      rintro e w1 ⟨r, okk, f', rfl, hR, s1, o1⟩
      have S1 : Hid (SpanAt w1 p bb gg (s.pg : Int) (s.cl : Int) (s.bts : Int) f') := s1
      have O1 : Hid (Only gg wr w1) := o1
      have hlen : slN (s.cl : Int) = st1.length := by rw [HF.out.len]; exact OK.out.len.symm
      rcases hR with ⟨rfl, j, rfl, hj, hj0, hjk, hf'⟩ | ⟨rfl, rfl, hall, hf'⟩
      · rw [hlen] at hj
        obtain ⟨z1, z2⟩ := take_first (s := s) rfl hj hj0 hjk
        have Z1 : Hid (st1[j]? = some 0 ∧ ∀ k, k < j → st1[k]? ≠ some 0) := ⟨z1, z2⟩
        have SP : Hid (SpS w1 T p { s with st := st1.set j (v + 2) }) := ⟨bb, gg, by
          have : Sg.f { s with st := st1.set j (v + 2) } = f' := by
            rw [hf']
            have := f_set (s := { s with st := st1 }) (j := j) (v := v + 2) hj
            rw [this]
            funext x
            unfold put
            by_cases e : x = j
            · simp [e]
            · simp [e]
          rw [this]; exact S1.out, KT.out⟩
        have HJ : Hid (j < slN (s.cl : Int)) := by rw [hlen]; exact hj
        have TB : Hid (Tabs w1) := HF.out.tab.onlyC O1.out (fun e => HA.out.t0 (e ▸ KT.out.2.2)) (fun e => HA.out.t1 (e ▸ KT.out.2.2))
        have VA : Hid (VAt w1 S 3 a1 (l1.map numV) cap1) := HF.out.va.same (old_only O1.out (HA.out.dis _ KT.out.2.2))
        have EX : Hid ((256 * (s.pg : Int) + (j : Int) * szI (s.cl : Int) (s.bts : Int)) = ((s.at j : Nat) : Int)) := by
          show _ = _
          rw [OK.out.facts.2.2.2.2.2.2.2]; unfold Sg.at; rw [Int.natCast_add, Int.natCast_mul, Int.natCast_mul]; rfl
        obtain ⟨x, hx⟩ : ∃ x, s.at j = x := ⟨_, rfl⟩
        have EXX : Hid (s.at j = x) := hx
        rw [hx] at EX
        clear hx s1 o1 hlen hj hj0 hjk hf' z1 z2
        have B2 : Hid (Below w1.heap.size w1 (w1.alloc (.cells #[.int .i64 (x : Nat)] 3))) := (Below.refl _ w1).alloc (Nat.le_refl _) _
        have HZ : Hid (w.heap.size ≤ wr.heap.size ∧ w1.heap.size = wr.heap.size) := ⟨HF.out.tu.size, O1.out.size⟩
        have HS2 : Hid (∀ k, (w1.alloc (.cells #[.int .i64 (x : Nat)] 3)).heap.size ≤ k → S k) := fun k hk => HS.out k (by have := B2.out.size; have := HZ.out; omega)
        have HQ : Hid ((w1.alloc (.cells #[.int .i64 (x : Nat)] 3)).cell? ⟨w1.heap.size, 0, none⟩ = some (.int .i64 (x : Nat))) := cell_of_row _ _ 0 _ _ _ (Go.heap_alloc_new w1 _)
        go_wp2_with (first
          | (go_at_call 175; refine (at_in p _ _ _ j _ S1.out.box TB.out.1 RT.out HJ.out).mono ?_; rw [EX.out]; rintro e w2 ⟨rfl, rfl⟩)
          | (at_builtin; refine wpList_appN 40 3 (.int .i64 0) rfl Tryz.underlying40 Tryz.info3 rfl _ _ rfl S HS2.out a1 n1 (l1.map numV) (by rw [List.length_map]; exact EN.out) cap1 rfl (VA.out.keep B2.out) ⟨w1.heap.size, 0, none⟩ (.int .i64 (x : Nat)) 1 rfl HQ.out rfl (by rw [List.length_map, EN.out]; omega) ?_))
        intro a2 cap2 w3 r1 r2 r3
        have ob1 : ∀ k, ob a1 = some k → S k := fun k hk => by
          rcases VA.out with ⟨e, _⟩ | ⟨g, cur, e, hg, _⟩
          · rw [e] at hk; cases hk
          · rw [e] at hk; cases hk; exact hg
        have T3 : Hid (Tu S w1 w3) := (Tu.ofBelow B2.out).trans (r2.mono (fun k _ hk => ob1 k hk))
        have NX : Hid (FillAt v p s T S l w w3 a2 cap2 (l1 ++ [s.at j]) (st1.set j (v + 2))) := by
          refine HF.out.next (by rw [EN.out]; exact hlt) Z1.out.1 Z1.out.2 (SP.out.same (old_tu T3.out (fun k _ hk => HA.out.dis k hk)) T3.out.size) ?_ (HF.out.tu.trans ((Tu.ofOnly (S := fun k => T k ∨ S k) O1.out (.inl KT.out.2.2)).trans (T3.out.mono (fun k _ hk => .inr hk)))) (TB.out.tu T3.out HA.out.s0 HA.out.s1)
          rw [EXX.out, List.map_append]; exact r1
        clear r1 r2 r3 ob1
        go_wp2
        go_roundw
        case rel => exact ⟨a2, cap2, l1 ++ [s.at j], st1.set j (v + 2), by rw [List.length_append, EN.out]; rfl, NX.out⟩
        case measure => simp [lenV]; omega
      · have FN : Hid (FillAt v p s T S l w w1 a1 cap1 l1 st1) := ⟨⟨bb, gg, by rw [← hf']; exact S1.out, KT.out⟩, HF.out.va.same (old_only O1.out (HA.out.dis _ KT.out.2.2)), HF.out.tu.trans (Tu.ofOnly O1.out (.inl KT.out.2.2)), HF.out.tab.onlyC O1.out (fun e => HA.out.t0 (e ▸ KT.out.2.2)) (fun e => HA.out.t1 (e ▸ KT.out.2.2)), HF.out.four, HF.out.e1, HF.out.e2, HF.out.len⟩
        have FU : Hid (l1 = l ++ (plS s zQ 0 s.st).take (4 - l.length) ∧ st1 = someSt v (4 - l.length) s.st) := FN.out.full (.inr (fun x hx => by
          obtain ⟨k, hk, rfl⟩ := List.getElem_of_mem hx
          have := hall k (by rw [hlen]; exact hk)
          rw [Sg.f_at (s := { s with st := st1 }) (List.getElem?_eq_getElem hk)] at this
          exact of_decide_eq_true this))
        clear s1 o1 hlen hall hf'
        go_wp2
        go_ret
        refine ⟨a1, cap1, ?_, ?_, ?_, FN.out.tu⟩
        · rw [← FU.out.1, EN.out]; rfl
        · rw [← FU.out.2]; exact FN.out.sp
        · rw [← FU.out.1]; exact FN.out.va
    · obtain rfl : n1 = 4 := by omega
      have FU : Hid (l1 = l ++ (plS s zQ 0 s.st).take (4 - l.length) ∧ st1 = someSt v (4 - l.length) s.st) := HF.out.full (.inl EN.out)
      go_wp2
      go_ret
      refine ⟨a1, cap1, ?_, ?_, ?_, HF.out.tu⟩
      · rw [← FU.out.1, EN.out]; rfl
      · rw [← FU.out.2]; exact HF.out.sp
      · rw [← FU.out.1]; exact HF.out.va
end Go.Proofs.YtgdjlopnhecmjaaGreatDoor

/- Layer 15: KaF again -/
namespace Go.Proofs.YtgdjlopnhecmjaaGreatDoor
open Go.RowKit
set_option linter.unusedVariables false
set_option maxRecDepth 4000
theorem ent_find : (match Tryz.prog.funcs[153]? with | some fn => !(fn.name == "runtime.NumGoroutine") && !fn.body.isNone | none => false) = true := by kernel_rfl
theorem ent_insP : (match Tryz.prog.funcs[233]? with | some fn => !(fn.name == "runtime.NumGoroutine") && !fn.body.isNone | none => false) = true := by kernel_rfl
/-- What stays where just the parts of Z turn. -/
theorem keepZ {w w' : World} {L L' : Nat → Nat} {Z : Nat → Prop} {l2 : Nat} (hL : Ext w L L') (ht : Tu (fun k => Z (L k) ∨ w.heap.size ≤ k) w w') (hne : ¬ Z l2) : ∀ (i : Nat) (o : Obj), w.heap[i]? = some o → L' i = l2 → w'.heap[i]? = some o := fun i o ho hi =>
  ht.block i o ho (by have hlt := (Array.getElem?_eq_some_iff.1 ho).1; rw [hL i hlt] at hi; rintro (h | h); exact hne (hi ▸ h); omega)
structure StayZ (Z : Nat → Prop) (w w' : World) (L' : Nat → Nat) (cb fb hb : Nat) (a : Option Addr) (cap : Nat) (ps : List Nat) (sh : List Value) (P W : Nat) (φ : Nat → Bool) (m : List Sg) (K : Nat → Nat → List Nat) : Prop where
  tab : Tabs w'
  l0 : L' 0 = 0
  l1 : L' 1 = 0
  box : ¬ Z 1 → w'.heap[cb]? = some (.cells #[.pointer (some ⟨fb, 0, none⟩), .slice a m.length cap, .slice (some ⟨hb, 0, none⟩) W W] 189 (0, 0))
  lb : L' cb = 1
  free : ¬ Z 2 → IsR w' (fun k => L' k = 2) fb P φ
  row : ¬ Z 3 → VAt w' (fun k => L' k = 3) 190 a (ps.map ptrV) cap
  spans : ∀ i (h : i < m.length) (h' : i < ps.length), ¬ Z (5 + 2 * m[i].pg) → SpS w' (fun k => L' k = 5 + 2 * m[i].pg) ps[i] m[i]
  hrow : ¬ Z 4 → w'.heap[hb]? = some (.cells sh.toArray 211 (0, 0))
  lh : L' hb = 4
  shelf : ∀ v c, v < W → c < 7 → ¬ Z (6 + 2 * (v * 7 + c)) → ∃ a cap, sh[v * 7 + c]? = some (.slice a (K v c).length cap) ∧ VAt w' (fun k => L' k = 6 + 2 * (v * 7 + c)) 3 a ((K v c).map numV) cap
theorem Cm.stayZ {w w' : World} {L L' : Nat → Nat} {cb fb hb : Nat} {a : Option Addr} {cap : Nat} {ps : List Nat} {sh : List Value} {P W : Nat} {φ : Nat → Bool} {m : List Sg} {K : Nat → Nat → List Nat} (h : Cm w L cb fb hb a cap ps sh P W φ m K) (Z : Nat → Prop) (hl : ¬ Z 0) (hL : Ext w L L') (ht : Tu (fun k => Z (L k) ∨ w.heap.size ≤ k) w w') :
    StayZ Z w w' L' cb fb hb a cap ps sh P W φ m K := by
  have t0 := h.tab.1.1
  have t1 := h.tab.2.1
  have hm : ∀ l2 i, i < w.heap.size → L i = l2 → L' i = l2 := fun l2 i hi e => (hL i hi).trans e
  refine ⟨h.tab.tu ht (fun e => ?_) (fun e => ?_), hm _ _ t0 h.l0, hm _ _ t1 h.l1, fun e => keepZ hL ht e cb _ h.box (hm _ _ (hlt h.box) h.lb), hm _ _ (hlt h.box) h.lb, fun e => (h.free.mono (hm 2)).same (keepZ hL ht e), fun e => (h.row.mono (hm 3)).same (keepZ hL ht e), fun i hi hi' e => ((h.spans i hi).mono (hm _)).same (keepZ hL ht e) ht.size, fun e => keepZ hL ht e hb _ h.hrow (hm _ _ (hlt h.hrow) h.lh), hm _ _ (hlt h.hrow) h.lh, fun v c hv hc e => ?_⟩
  · rcases e with e | e
    · rw [h.l0] at e; exact hl e
    · omega
  · rcases e with e | e
    · rw [h.l1] at e; exact hl e
    · omega
  · obtain ⟨a', cap', h1, h2⟩ := h.shelf v c hv hc
    exact ⟨a', cap', h1, (h2.mono (hm _)).same (keepZ hL ht e)⟩
/-- A span more lies among the spans. -/
theorem Cm.laid {w w' : World} {L L' : Nat → Nat} {cb fb hb : Nat} {a a' : Option Addr} {cap cap' : Nat} {ps : List Nat} {sh : List Value} {P W : Nat} {φ : Nat → Bool} {m : List Sg} {K : Nat → Nat → List Nat} (h : Cm w L cb fb hb a cap ps sh P W φ m K) (hL : Ext w L L') (ht : Tu (fun k => (L k = 1 ∨ L k = 3) ∨ w.heap.size ≤ k) w w') (i : Nat) (hi : i ≤ m.length) (t : Sg) (p : Nat)
    (hsp : SpS w' (fun k => L' k = 5 + 2 * t.pg) p t) (hrow : VAt w' (fun k => L' k = 3) 190 a' ((ps.take i ++ p :: ps.drop i).map ptrV) cap') (hbox : w'.heap[cb]? = some (.cells #[.pointer (some ⟨fb, 0, none⟩), .slice a' (m.length + 1) cap', .slice (some ⟨hb, 0, none⟩) W W] 189 (0, 0))) :
    Cm w' L' cb fb hb a' cap' (ps.take i ++ p :: ps.drop i) sh P W φ (m.take i ++ t :: m.drop i) K := by
  have s := h.stayZ (fun l => l = 1 ∨ l = 3) (by omega) hL ht
  have hpl := h.plen
  have hm : (m.take i ++ t :: m.drop i).length = m.length + 1 := by simp; omega
  refine ⟨s.tab, s.l0, s.l1, by rw [hm]; exact hbox, s.lb, s.free (by omega), hrow, by rw [hm]; simp; omega, fun j hj => ?_, s.hrow (by omega), s.lh, h.shl, fun v c hv hc => s.shelf v c hv hc (by omega)⟩
  rcases Nat.lt_trichotomy j i with e | e | e
  · have e1 : (m.take i ++ t :: m.drop i)[j] = m[j]'(by omega) := by rw [List.getElem_append_left (by simp; omega)]; simp
    have e2 : (ps.take i ++ p :: ps.drop i)[j]'(by simp; omega) = ps[j]'(by omega) := by rw [List.getElem_append_left (by simp; omega)]; simp
    rw [e1, e2]; exact s.spans j (by omega) (by omega) (by omega)
  · subst e
    have e1 : (m.take j ++ t :: m.drop j)[j] = t := by rw [List.getElem_append_right (by simp; omega)]; simp [Nat.min_eq_left hi]
    have e2 : (ps.take j ++ p :: ps.drop j)[j]'(by simp; omega) = p := by rw [List.getElem_append_right (by simp; omega)]; simp [Nat.min_eq_left (by omega : j ≤ ps.length)]
    rw [e1, e2]; exact hsp
  · obtain ⟨q, rfl⟩ : ∃ q, j = i + 1 + q := ⟨j - i - 1, by omega⟩
    rw [hm] at hj
    have e1 : (m.take i ++ t :: m.drop i)[i + 1 + q]'(by rw [hm]; omega) = m[i + q]'(by omega) := by
      rw [List.getElem_append_right (by simp; omega)]
      simp only [List.length_take, Nat.min_eq_left hi, show i + 1 + q - i = q + 1 by omega, List.getElem_cons_succ, List.getElem_drop]
    have e2 : (ps.take i ++ p :: ps.drop i)[i + 1 + q]'(by simp; omega) = ps[i + q]'(by omega) := by
      rw [List.getElem_append_right (by simp; omega)]
      simp only [List.length_take, Nat.min_eq_left (by omega : i ≤ ps.length), show i + 1 + q - i = q + 1 by omega, List.getElem_cons_succ, List.getElem_drop]
    rw [e1, e2]; exact s.spans (i + q) (by omega) (by omega) (by omega)
/-- A call has turned just the cache's own blocks. -/
structure cMv (L : Nat → Nat) (w : World) (L' : Nat → Nat) (w' : World) : Prop where
  ext : Ext w L L'
  tu : Tu (fun k => L k ≠ 0) w w'
theorem cMv.refl (L : Nat → Nat) (w : World) : cMv L w L w := ⟨Ext.refl _ _, Tu.refl _ _⟩
theorem cMv.trans {L L1 L2 : Nat → Nat} {w w1 w2 : World} (h : cMv L w L1 w1) (k : cMv L1 w1 L2 w2) : cMv L w L2 w2 :=
  ⟨h.ext.trans k.ext h.tu.size, ⟨k.tu.os.trans h.tu.os, k.tu.tape.trans h.tu.tape, k.tu.output.trans h.tu.output, Nat.le_trans h.tu.size k.tu.size, fun i o ho hk => k.tu.block i o (h.tu.block i o ho hk) (by rw [h.ext i (hlt ho)]; exact hk)⟩⟩
theorem cMv.below {L L' : Nat → Nat} {w w' : World} (hL : Ext w L L') (hb : Below w.heap.size w w') : cMv L w L' w' := ⟨hL, Tu.ofBelow hb⟩
theorem cMv.of {L L' : Nat → Nat} {w w' : World} (Z : Nat → Prop) (hZ : ¬ Z 0) (hL : Ext w L L') (ht : Tu (fun k => Z (L k) ∨ w.heap.size ≤ k) w w') : cMv L w L' w' := ⟨hL, ht.mono (fun k hk h e => by rcases h with h | h; rw [e] at h; exact hZ h; omega)⟩
end Go.Proofs.YtgdjlopnhecmjaaGreatDoor
