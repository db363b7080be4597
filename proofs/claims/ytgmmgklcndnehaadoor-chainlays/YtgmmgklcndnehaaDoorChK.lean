/- Layer 19: the walk of ChainLays. -/
import Derived.Test.YtgmmgklcndnehaaDoorGzAJ
import Derived.Test.YtgmmgklcndnehaaDoorChH
import Derived.Test.YtgmmgklcndnehaaDoorErL
namespace Go.Proofs.YtgmmgklcndnehaaDoor
open Go.RowKit Go.Maps
set_option linter.unusedVariables false
set_option maxRecDepth 4000

theorem ownsB_caps {w : World} {base g c : Nat} {l : List Int} (h : OwnsB w base (some ⟨g, 0, none⟩) l c) : l.length ≤ c ∧ c ≤ maxLen := by
  obtain ⟨_, ⟨q, _⟩ | ⟨g', c', cur, q, _, _, r1, r2, _⟩⟩ := h
  · cases q
  · cases q; exact ⟨r1, r2⟩
theorem layEC_ap {n : Nat} {l : List Int} (h : layEC n l = 0) : apC l = true := by
  unfold layEC at h
  split at h
  · cases h
  · split at h
    · rename_i q; exact q.2
    · cases h
theorem layEC_rng (n : Nat) (l : List Int) (h : layEC n l ≠ 0) : 1 ≤ layEC n l ∧ layEC n l ≤ 17 := by
  unfold layEC at h ⊢
  split
  · decide
  · rename_i q
    rw [if_neg q] at h
    split
    · rename_i q2; rw [if_pos q2] at h; exact absurd rfl h
    · decide
theorem wrC_rows {b l : List Int} (hb : AllB b) (h : apC l = true) : ∀ x ∈ wrC b l, x.2.length = 64 ∧ AllB x.2 := fun x hx => by
  obtain ⟨k, hk, e⟩ := List.mem_iff_getElem.1 hx
  subst e
  obtain ⟨_, _, q1, q2⟩ := wrC_ok hb h hk
  exact ⟨q1, q2⟩

set_option maxRecDepth 20000 in
set_option maxHeartbeats 8000000 in
theorem lays_many (a al : Option Addr) (cap cl : Nat) (b l : List Int) (w : World) (hT : ErrT w) (hl : 2000 < l.length) :
    Calls Tryd.prog 3 #[.slice a b.length cap, .slice al l.length cl] w fun e w' => e = .returned (.bool true) ∧ Below w.heap.size w w' := by
  have HT : Hid (ErrT w) := hT
  have h1 : (2000 : Int) < (l.length : Int) := by omega
  clear hT
  go_enter Tryd.func3, Tryd.ntmps3
  go_wp2_with (go_at_call 8; refine (alive19 _ HT.out).mono ?_; rintro e w1 ⟨rfl, b1⟩; have B1 : Hid (Below w.heap.size w w1) := b1; clear b1)
  go_ret
  exact ⟨rfl, B1.out⟩

set_option maxRecDepth 20000 in
set_option maxHeartbeats 8000000 in
theorem lays_bad (a al : Option Addr) (cap cl : Nat) (b l : List Int) (w : World) (hB : IsB w a b) (hbc : b.length ≤ cap) (hcm : cap ≤ maxLen) (hY : b.length ≤ 140737488355328) (hI : IsI w al l) (hnl : al = none → l = [] ∧ cl = 0) (hT : ErrT w) (hl : l.length ≤ 2000) (h0 : layEC b.length l ≠ 0) :
    Calls Tryd.prog 3 #[.slice a b.length cap, .slice al l.length cl] w fun e w' => e = .returned (.bool true) ∧ Below w.heap.size w w' := by
  obtain ⟨N, hN⟩ : ∃ N, w.heap.size = N := ⟨_, rfl⟩
  have HN : Hid (w.heap.size = N) := hN
  have HT : Hid (ErrT w) := hT
  have HBB : Hid (∀ w', Below N w w' → IsB w' a b) := fun w' bb => hB.keep (by rw [hN]; exact bb)
  have HII : Hid (∀ w', Below N w w' → IsI w' al l) := fun w' bb => hI.keep (by rw [hN]; exact bb)
  have MT : Hid (∀ w2, Below N w w2 → N ≤ w2.heap.size) := fun w2 bb => by rw [← hN]; exact bb.size
  have CL : Hid (b.length ≤ 140737488355328) := by show _ ≤ _; omega
  have AB : Hid (AllB b) := hB.1
  have AI : Hid (∀ x ∈ l, -9223372036854775808 ≤ x ∧ x ≤ 9223372036854775807) := hI.1
  have HNL : Hid (al = none → l = [] ∧ cl = 0) := hnl
  have LM : Hid (l.length ≤ maxLen) := by show _ ≤ _; unfold maxLen; omega
  obtain ⟨c, hc⟩ : ∃ c, layEC b.length l = c := ⟨_, rfl⟩
  have CR : Hid (1 ≤ c ∧ c ≤ 17) := by show _ ∧ _; rw [← hc]; exact layEC_rng _ _ h0
  have LA : Hid (∀ (w' : World) (a1 al1 : Option Addr) (c1 cl1 : Nat), IsB w' a1 b → b.length ≤ c1 → c1 ≤ maxLen → IsI w' al1 l → Calls Tryd.prog 10 #[.slice a1 b.length c1, .slice al1 l.length cl1] w' fun e w2 => e = .returned (.tuple #[.slice none 0 0, refE c]) ∧ Below w'.heap.size w' w2) := fun w' a1 al1 c1 cl1 q1 q2 q3 q4 => by
    refine (hlay_any a1 al1 c1 cl1 b l w' q1 q2 q3 q4 LM.out).mono ?_
    rintro e w2 ⟨b2, ⟨_, q⟩ | ⟨q, _⟩⟩
    · rw [hc] at q; exact ⟨q, b2⟩
    · exact absurd q h0
  have LD : Hid (∀ w', Below N w w' → Calls Tryd.prog 11 #[.slice a b.length cap, .slice al l.length cl] w' fun e w2 => e = .returned (.tuple #[.slice none 0 0, .int .i64 c]) ∧ Below w'.heap.size w' w2) := fun w' bb => by
    refine (dlay_any a al cap cl b l w' (HBB.out _ bb) hbc hcm (HII.out _ bb) LM.out).mono ?_
    rintro e w2 ⟨b2, ⟨_, q⟩ | ⟨q, _⟩⟩
    · rw [hc] at q; exact ⟨q, b2⟩
    · exact absurd q h0
  obtain ⟨C, hC⟩ : ∃ C : Nat, cntC b.length = C := ⟨_, rfl⟩
  have CH : Hid (∀ w' : World, Calls Tryd.prog 14 #[.int .i64 (b.length : Nat)] w' fun e w2 => e = .returned (.int .i64 (C : Nat)) ∧ w' = w2) := fun w' => hcount_of _ _ w' (by omega) (by rw [hC])
  have CD : Hid (∀ w' : World, Calls Tryd.prog 15 #[.int .i64 (b.length : Nat)] w' fun e w2 => e = .returned (.int .i64 (C : Nat)) ∧ w' = w2) := fun w' => dcount_of _ _ w' (by omega) (by rw [hC])
  have h1 : ¬ (2000 : Int) < (l.length : Int) := by omega
  clear hN hT hB hI hnl hc h0 hbc hcm hC
  go_enter Tryd.func3, Tryd.ntmps3
  go_wp2_with (first
    | (go_at_call 8; refine (alive19 _ HT.out).mono ?_; rw [HN.out]; rintro e w1 ⟨rfl, b1⟩; have B1 : Hid (Below N w w1) := b1; clear b1)
    | (go_at_call 9; refine (copy_any _ _ _ b _ rfl (HBB.out _ B1.out) CL.out).mono ?_; rintro e w2 ⟨g1, c1, rfl, o2, b2⟩; have CP : Hid (b.length ≤ c1 ∧ c1 ≤ maxLen) := ownsB_caps o2; have I2 : Hid (IsB w2 (some ⟨g1, 0, none⟩) b) := ownsB_isB AB.out o2; have B2 : Hid (Below N w w2) := B1.out.trans (b2.mono (MT.out _ B1.out)); clear o2 b2)
    | (at_builtin; refine wpList_appi rfl _ _ rfl w2.heap.size w2.heap.size (by simp) rfl (ownsI_made _ _ (Nat.le_refl _)) al l cl rfl (HII.out _ (B2.out.trans (((Below.refl _ w2).alloc (Nat.le_refl _) _).mono (MT.out _ B2.out)))) HNL.out (by omega) ?_; intro a3 c3 w3 o3 b3; have B23 : Hid (Below w2.heap.size w2 w3) := ((Below.refl _ w2).alloc (Nat.le_refl _) _).trans b3; have B3 : Hid (Below N w w3) := B2.out.trans (B23.out.mono (MT.out _ B2.out)); have I3 : Hid (IsB w3 (some ⟨g1, 0, none⟩) b) := I2.out.keep B23.out; have J3 : Hid (IsI w3 a3 l) := ownsI_isI AI.out o3; clear o3 b3)
    | (go_at_call 10; refine (LA.out _ _ _ _ _ I3.out CP.out.1 CP.out.2 J3.out).mono ?_; rintro e w4 ⟨rfl, b4⟩; have I4 : Hid (IsB w4 (some ⟨g1, 0, none⟩) b) := I3.out.keep b4; have J4 : Hid (IsI w4 a3 l) := J3.out.keep b4; have B4 : Hid (Below N w w4) := B3.out.trans (b4.mono (MT.out _ B3.out)); clear b4)
    | (go_at_call 11; refine (LD.out _ B4.out).mono ?_; rintro e w5 ⟨rfl, b5⟩; have I5 : Hid (IsB w5 (some ⟨g1, 0, none⟩) b) := I4.out.keep b5; have J5 : Hid (IsI w5 a3 l) := J4.out.keep b5; have B5 : Hid (Below N w w5) := B4.out.trans (b5.mono (MT.out _ B4.out)); clear b5)
    | (go_at_call 12; refine (code_any (refE c) c (-1) _ (.inr ⟨CR.out.1, CR.out.2, .inl ⟨rfl, rfl⟩⟩)).mono ?_; rintro e w6 ⟨rfl, b6⟩; have I6 : Hid (IsB w6 (some ⟨g1, 0, none⟩) b) := I5.out.keep b6; have J6 : Hid (IsI w6 a3 l) := J5.out.keep b6; have B6 : Hid (Below N w w6) := B5.out.trans (b6.mono (MT.out _ B5.out)); clear b6)
    | (go_at_call 13; refine (dwrites_none _).mono ?_; rintro e w7 ⟨rfl, b7⟩; have I7 : Hid (IsB w7 (some ⟨g1, 0, none⟩) b) := I6.out.keep b7; have J7 : Hid (IsI w7 a3 l) := J6.out.keep b7; have B7 : Hid (Below N w w7) := B6.out.trans (b7.mono (MT.out _ B6.out)); clear b7)
    | (go_at_call 14; refine (CH.out _).mono ?_; rintro e w' ⟨rfl, rfl⟩)
    | (go_at_call 15; refine (CD.out _).mono ?_; rintro e w' ⟨rfl, rfl⟩))
  go_loopw [56] (fun iv wr => iv = .int .i64 0 ∧ wr = w7) (fun _ _ => 0)
  case atStart => exact ⟨rfl, rfl⟩
  case round =>
    obtain ⟨rfl, rfl⟩ := hrel
    go_wp2_with (first
      | (go_at_call 16; refine (same_true _ _ _ _ _ _ b _ I7.out (HBB.out _ B7.out) rfl rfl).mono ?_; rintro e w' ⟨rfl, rfl⟩)
      | (go_at_call 17; refine (ints_same _ _ _ _ _ _ l _ J7.out (HII.out _ B7.out) rfl rfl LM.out).mono ?_; rintro e w9 ⟨rfl, b9⟩; have B9 : Hid (Below N w w9) := B7.out.trans (b9.mono (MT.out _ B7.out)); clear b9))
    go_ret
    exact ⟨rfl, by rw [HN.out]; exact B9.out⟩

set_option maxRecDepth 20000 in
set_option maxHeartbeats 8000000 in
theorem lays_good (a al : Option Addr) (cap cl : Nat) (b l : List Int) (w : World) (hB : IsB w a b) (hbc : b.length ≤ cap) (hcm : cap ≤ maxLen) (hY : b.length ≤ 140737488355328) (hI : IsI w al l) (hnl : al = none → l = [] ∧ cl = 0) (hT : ErrT w) (hl : l.length ≤ 2000) (h0 : layEC b.length l = 0) :
    Calls Tryd.prog 3 #[.slice a b.length cap, .slice al l.length cl] w fun e w' => e = .returned (.bool true) ∧ Below w.heap.size w w' := by
  obtain ⟨N, hN⟩ : ∃ N, w.heap.size = N := ⟨_, rfl⟩
  have HN : Hid (w.heap.size = N) := hN
  have HT : Hid (ErrT w) := hT
  have HBB : Hid (∀ w', Below N w w' → IsB w' a b) := fun w' bb => hB.keep (by rw [hN]; exact bb)
  have HII : Hid (∀ w', Below N w w' → IsI w' al l) := fun w' bb => hI.keep (by rw [hN]; exact bb)
  have MT : Hid (∀ w2, Below N w w2 → N ≤ w2.heap.size) := fun w2 bb => by rw [← hN]; exact bb.size
  have CL : Hid (b.length ≤ 140737488355328) := by show _ ≤ _; omega
  have AB : Hid (AllB b) := hB.1
  have AI : Hid (∀ x ∈ l, -9223372036854775808 ≤ x ∧ x ≤ 9223372036854775807) := hI.1
  have HNL : Hid (al = none → l = [] ∧ cl = 0) := hnl
  have LM : Hid (l.length ≤ maxLen) := by show _ ≤ _; unfold maxLen; omega
  have WOK : Hid (∀ x ∈ wrC b l, x.2.length = 64 ∧ AllB x.2) := wrC_rows hB.1 (layEC_ap h0)
  have LA : Hid (∀ (w' : World) (a1 al1 : Option Addr) (c1 cl1 : Nat), IsB w' a1 b → b.length ≤ c1 → c1 ≤ maxLen → IsI w' al1 l → Calls Tryd.prog 10 #[.slice a1 b.length c1, .slice al1 l.length cl1] w' fun e w2 => ∃ g, e = .returned (.tuple #[.slice (some ⟨g, 0, none⟩) l.length l.length, .nilIface]) ∧ WrB w2 w'.heap.size g l.length 0 (wrC b l) ∧ Below w'.heap.size w' w2) := fun w' a1 al1 c1 cl1 q1 q2 q3 q4 => by
    refine (hlay_any a1 al1 c1 cl1 b l w' q1 q2 q3 q4 LM.out).mono ?_
    rintro e w2 ⟨b2, ⟨q, _⟩ | ⟨_, g, q, r⟩⟩
    · exact absurd h0 q
    · exact ⟨g, q, r, b2⟩
  have LD : Hid (∀ w', Below N w w' → Calls Tryd.prog 11 #[.slice a b.length cap, .slice al l.length cl] w' fun e w2 => ∃ (a2 : Option Addr) (c2 : Nat) (qs : List En), e = .returned (.tuple #[.slice a2 l.length c2, .int .i64 0]) ∧ WrR w2 w'.heap.size a2 c2 qs ∧ qs.map (fun x => (x.s, x.b)) = wrC b l ∧ qs.length = l.length ∧ Below w'.heap.size w' w2) := fun w' bb => by
    refine (dlay_any a al cap cl b l w' (HBB.out _ bb) hbc hcm (HII.out _ bb) LM.out).mono ?_
    rintro e w2 ⟨b2, ⟨q, _⟩ | ⟨_, a2, c2, qs, q, r, s⟩⟩
    · exact absurd h0 q
    · have e2 : qs.length = l.length := by rw [← wrC_len b l, ← s, List.length_map]
      exact ⟨a2, c2, qs, by rw [← e2]; exact q, r, s, e2, b2⟩
  obtain ⟨C, hC⟩ : ∃ C : Nat, cntC b.length = C := ⟨_, rfl⟩
  have CH : Hid (∀ w' : World, Calls Tryd.prog 14 #[.int .i64 (b.length : Nat)] w' fun e w2 => e = .returned (.int .i64 (C : Nat)) ∧ w' = w2) := fun w' => hcount_of _ _ w' (by omega) (by rw [hC])
  have CD : Hid (∀ w' : World, Calls Tryd.prog 15 #[.int .i64 (b.length : Nat)] w' fun e w2 => e = .returned (.int .i64 (C : Nat)) ∧ w' = w2) := fun w' => dcount_of _ _ w' (by omega) (by rw [hC])
  have h1 : ¬ (2000 : Int) < (l.length : Int) := by omega
  clear hN hT hB hI hnl h0 hbc hcm hC
  go_enter Tryd.func3, Tryd.ntmps3
  go_wp2_with (first
    | (go_at_call 8; refine (alive19 _ HT.out).mono ?_; rw [HN.out]; rintro e w1 ⟨rfl, b1⟩; have B1 : Hid (Below N w w1) := b1; clear b1)
    | (go_at_call 9; refine (copy_any _ _ _ b _ rfl (HBB.out _ B1.out) CL.out).mono ?_; rintro e w2 ⟨g1, c1, rfl, o2, b2⟩; have CP : Hid (b.length ≤ c1 ∧ c1 ≤ maxLen) := ownsB_caps o2; have I2 : Hid (IsB w2 (some ⟨g1, 0, none⟩) b) := ownsB_isB AB.out o2; have B2 : Hid (Below N w w2) := B1.out.trans (b2.mono (MT.out _ B1.out)); clear o2 b2)
    | (at_builtin; refine wpList_appi rfl _ _ rfl w2.heap.size w2.heap.size (by simp) rfl (ownsI_made _ _ (Nat.le_refl _)) al l cl rfl (HII.out _ (B2.out.trans (((Below.refl _ w2).alloc (Nat.le_refl _) _).mono (MT.out _ B2.out)))) HNL.out (by omega) ?_; intro a3 c3 w3 o3 b3; have B23 : Hid (Below w2.heap.size w2 w3) := ((Below.refl _ w2).alloc (Nat.le_refl _) _).trans b3; have B3 : Hid (Below N w w3) := B2.out.trans (B23.out.mono (MT.out _ B2.out)); have I3 : Hid (IsB w3 (some ⟨g1, 0, none⟩) b) := I2.out.keep B23.out; have J3 : Hid (IsI w3 a3 l) := ownsI_isI AI.out o3; obtain ⟨K, hK⟩ : ∃ K, w3.heap.size = K := ⟨_, rfl⟩; have HK : Hid (w3.heap.size = K) := hK; have NK : Hid (N ≤ K) := (by show _ ≤ _; rw [← hK]; exact MT.out _ B3.out); have MK : Hid (∀ w9, Below K w3 w9 → K ≤ w9.heap.size) := (fun w9 bb => by rw [← hK]; exact bb.size); have I9 : Hid (∀ w9, Below K w3 w9 → IsB w9 (some ⟨g1, 0, none⟩) b) := (fun w9 bb => I3.out.keep (by rw [hK]; exact bb)); have J9 : Hid (∀ w9, Below K w3 w9 → IsI w9 a3 l) := (fun w9 bb => J3.out.keep (by rw [hK]; exact bb)); have NW : Hid (∀ w9, Below K w3 w9 → Below N w w9) := (fun w9 bb => B3.out.trans (bb.mono NK.out)); clear o3 b3 hK)
    | (go_at_call 10; refine (LA.out _ _ _ _ _ I3.out CP.out.1 CP.out.2 J3.out).mono ?_; rw [HK.out]; rintro e w4 ⟨g, rfl, q4, b4⟩; have Q4 : Hid (WrB w4 K g l.length 0 (wrC b l)) := q4; have B4 : Hid (Below K w3 w4) := b4; clear q4 b4)
    | (go_at_call 11; refine (LD.out _ (NW.out _ B4.out)).mono ?_; rintro e w5 ⟨a2, c2, qs, rfl, r5, m5, e5, b5⟩; have R5 : Hid (WrR w5 w4.heap.size a2 c2 qs) := r5; have M5 : Hid (qs.map (fun x => (x.s, x.b)) = wrC b l) := m5; have E5 : Hid (qs.length = l.length) := e5; have Q5 : Hid (WrB w5 K g l.length 0 (wrC b l)) := Q4.out.keep b5; have B5 : Hid (Below K w3 w5) := B4.out.trans (b5.mono (MK.out _ B4.out)); clear r5 m5 e5 b5)
    | (go_at_call 12; refine (code_any .nilIface 0 (-1) _ (.inl ⟨rfl, rfl, rfl⟩)).mono ?_; rintro e w6 ⟨rfl, b6⟩; have R6 : Hid (WrR w6 w4.heap.size a2 c2 qs) := R5.out.keep b6; have Q6 : Hid (WrB w6 K g l.length 0 (wrC b l)) := Q5.out.keep b6; have B6 : Hid (Below K w3 w6) := B5.out.trans (b6.mono (MK.out _ B5.out)); clear b6)
    | (go_at_call 13; have q7 := dwrites_same K w4.heap.size g l.length c2 a2 qs (wrC b l) w6 Q6.out R6.out M5.out (by omega); rw [E5.out] at q7; refine q7.mono ?_; clear q7; rintro e w7 ⟨rfl, b7⟩; have IN : Hid (Inc w7 K g l.length) := (Q6.out.keep b7).inc WOK.out; have B7 : Hid (Below K w3 w7) := B6.out.trans (b7.mono (MK.out _ B6.out)); clear b7)
    | (go_at_call 14; refine (CH.out _).mono ?_; rintro e w' ⟨rfl, rfl⟩)
    | (go_at_call 15; refine (CD.out _).mono ?_; rintro e w' ⟨rfl, rfl⟩))
  go_loopw [56] (fun iv wr => ∃ i : Nat, i ≤ l.length ∧ iv = .int .i64 (i : Nat) ∧ Inc wr K g l.length ∧ Below K w3 wr) (fun iv _ => l.length - (intOf iv).toNat)
  case atStart => exact ⟨0, Nat.zero_le _, rfl, IN.out, B7.out⟩
  case round =>
    obtain ⟨i, hi, rfl, hin, hbl⟩ := hrel
    have HI : Hid (Inc wr K g l.length) := hin
    have HB : Hid (Below K w3 wr) := hbl
    clear hin hbl
    by_cases hlt : i < l.length
    · obtain ⟨q, bs, hq, d1, _, _, _⟩ := HI.out.at i hlt
      have D1 : Hid (wr.cell? ⟨g, i * 2 + 1, none⟩ = some (.slice (some ⟨q, 0, none⟩) 64 64)) := d1
      have HQ : Hid (K ≤ q) := hq
      clear hq
      go_wp2_with fail
      go_loopw [65] (fun kv wy => ∃ k : Nat, k ≤ 64 ∧ kv = .int .i64 (k : Nat) ∧ Inc wy K g l.length ∧ Below K w3 wy ∧ wy.cell? ⟨g, i * 2 + 1, none⟩ = some (.slice (some ⟨q, 0, none⟩) 64 64)) (fun kv _ => 64 - (intOf kv).toNat)
      case atStart => exact ⟨0, Nat.zero_le _, rfl, HI.out, HB.out, D1.out⟩
      case round =>
        obtain ⟨k, hk, rfl, hin, hbl, hd⟩ := hrel
        rename World => wy
        have HY : Hid (Inc wy K g l.length) := hin
        have BY : Hid (Below K w3 wy) := hbl
        by_cases hk64 : k < 64
        · obtain ⟨q', bs', _, d1', rb, hl64, hab⟩ := hin.at i hlt
          rw [hd] at d1'
          cases d1'
          have hne : g ≠ q := fun e => by
            subst e
            obtain ⟨cs, h9⟩ := hin.row
            have r9 : wy.heap[g]? = some (.cells (cellsB bs').toArray 5 (0, 0)) := rb
            rw [h9] at r9
            cases r9
          have hx := rb.cell k (by rw [hl64]; exact hk64)
          have hfz := rb.thawed k
          obtain ⟨x, ex⟩ : ∃ x, bs'.getD k 0 = x := ⟨_, rfl⟩
          rw [ex] at hx
          clear ex
          have k0 : (k : Int) < 64 := by omega
          obtain ⟨y, hy⟩ : ∃ y, IntKind.u8.wrap (x + 1) = y := ⟨_, rfl⟩
          have yb : 0 ≤ y ∧ y ≤ 255 := by rw [← hy, IntKind.wrap_u8]; omega
          have S1 : Hid (Inc (wy.setCell ⟨q, k, none⟩ (.int .u8 y)) K g l.length) := HY.out.turn rb hl64 hab k y yb
          have S2 : Hid (Below K w3 (wy.setCell ⟨q, k, none⟩ (.int .u8 y))) := BY.out.trans ((Only.set _ _ _ _).below HQ.out)
          have u2 : (wy.setCell ⟨q, k, none⟩ (.int .u8 y)).cell? ⟨g, i * 2 + 1, none⟩ = some (.slice (some ⟨q, 0, none⟩) 64 64) := setc_else hne hd
          have U2 : Hid _ := u2
          have D2 : wy.drew.cell? ⟨g, i * 2 + 1, none⟩ = some (.slice (some ⟨q, 0, none⟩) 64 64) := hd
          have u3 : (wy.setCell ⟨q, k, none⟩ (.int .u8 y)).drew.cell? ⟨g, i * 2 + 1, none⟩ = some (.slice (some ⟨q, 0, none⟩) 64 64) := u2
          have i0 : (i : Int) < (l.length : Int) := by omega
          clear hin hbl rb hl64 hab
          go_wp2_with fail
          go_region
          all_goals
            go_wp2
            go_roundw
            case rel => exact ⟨k + 1, by omega, by go_num, (by first | exact S1.out | exact S1.out.drew), (by first | exact S2.out | exact ⟨S2.out.os, S2.out.tape, S2.out.output, S2.out.size, S2.out.block⟩), (by first | exact U2.out | exact U2.out)⟩
            case measure => simp [intOf]; omega
        · obtain rfl : k = 64 := by omega
          clear hin hbl
          go_wp2
          go_roundw
          case rel => exact ⟨i + 1, by omega, by go_num, HY.out, BY.out⟩
          case measure => simp [intOf]; omega
    · go_wp2_with (first
        | (go_at_call 16; refine (same_true _ _ _ _ _ _ b _ (I9.out _ HB.out) (HBB.out _ (NW.out _ HB.out)) rfl rfl).mono ?_; rintro e w' ⟨rfl, rfl⟩)
        | (go_at_call 17; refine (ints_same _ _ _ _ _ _ l _ (J9.out _ HB.out) (HII.out _ (NW.out _ HB.out)) rfl rfl LM.out).mono ?_; rintro e w9 ⟨rfl, b9⟩; have B9 : Hid (Below N w w9) := (NW.out _ HB.out).trans (b9.mono (MT.out _ (NW.out _ HB.out))); clear b9))
      go_ret
      exact ⟨rfl, by rw [HN.out]; exact B9.out⟩
/-- What is to be written of any bytes is the document's. -/
theorem chainLays_any (a al : Option Addr) (cap cl : Nat) (b l : List Int) (w : World) (hB : IsB w a b) (hbc : b.length ≤ cap ∧ cap ≤ maxLen) (hN : a = none → b = [] ∧ cap = 0) (hY : b.length ≤ 140737488355328) (hI : IsI w al l) (hnl : al = none → l = [] ∧ cl = 0) (hM : l.length ≤ maxLen) (hT : ErrT w) :
    Calls Tryd.prog 3 #[.slice a b.length cap, .slice al l.length cl] w fun e w' => e = .returned (.bool true) ∧ Below w.heap.size w w' := by
  by_cases h : 2000 < l.length
  · exact lays_many a al cap cl b l w hT h
  · by_cases h0 : layEC b.length l = 0
    · exact lays_good a al cap cl b l w hB hbc.1 hbc.2 hY hI hnl hT (by omega) h0
    · exact lays_bad a al cap cl b l w hB hbc.1 hbc.2 hY hI hnl hT (by omega) h0
end Go.Proofs.YtgmmgklcndnehaaDoor
