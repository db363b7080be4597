/- Layer 19: the walk of ChainBursts. -/
import Derived.Test.YtgmmgklcndnehaaDoorCiB
import Derived.Test.YtgmmgklcndnehaaDoorDkQ
import Derived.Test.YtgmmgklcndnehaaDoorDkW
namespace Go.Proofs.YtgmmgklcndnehaaDoor
open Go.RowKit Go.Maps
set_option linter.unusedVariables false
set_option maxRecDepth 4000

set_option maxRecDepth 20000 in
set_option maxHeartbeats 8000000 in
theorem bursts_none (a : Option Addr) (cap : Nat) (b : List Int) (s A0 m : Nat) (w : World) (hT : ErrT w) (hbm : b.length ≤ maxLen) (h : b.length < 1 ∨ 1680 < b.length ∨ m = 0) :
    Calls Tryd.prog 6 #[.slice a b.length cap, .int .u8 (s : Nat), .agg #[.int .u16 (A0 : Nat), .int .u32 (m : Nat)]] w fun e w' => e = .returned (.bool true) ∧ Below w.heap.size w w' := by
  obtain ⟨N, hN⟩ : ∃ N, w.heap.size = N := ⟨_, rfl⟩
  have HN : Hid (w.heap.size = N) := hN
  obtain ⟨w0, hw0⟩ : ∃ w0, w.alloc (.cells #[.int .u16 (A0 : Nat), .int .u32 (m : Nat)] 64) = w0 := ⟨_, rfl⟩
  have HW0 : Hid (w.alloc (.cells #[.int .u16 (A0 : Nat), .int .u32 (m : Nat)] 64) = w0) := hw0
  have r0 : w0.heap[N]? = some (.cells #[.int .u16 (A0 : Nat), .int .u32 (m : Nat)] 64 (0, 0)) := by rw [← hw0, ← hN]; exact Go.heap_alloc_new w _
  have B0 : Hid (Below N w w0) := by show Below _ _ _; rw [← hw0, ← hN]; exact (Below.refl _ w).alloc (Nat.le_refl _) _
  have C0 : Hid (∀ w', Below w0.heap.size w0 w' → w'.cell? ⟨N, 0, none⟩ = some (.int .u16 (A0 : Nat)) ∧ w'.cell? ⟨N, 1, none⟩ = some (.int .u32 (m : Nat))) := fun w' bb => by
    have q : w'.heap[N]? = _ := (bb.block N (Array.getElem?_eq_some_iff.1 r0).1).trans r0
    exact ⟨cell_of_row _ _ 0 _ _ _ q, cell_of_row _ _ 1 _ _ _ q⟩
  have T0 : Hid (ErrT w0) := hT.keep (by rw [hN]; exact B0.out)
  have N0 : Hid (N ≤ w0.heap.size) := by show _ ≤ _; have := B0.out.size; rw [hN] at this; exact this
  have AL : Hid (Calls Tryd.prog 8 #[] w0 fun e w' => e = .returned (.bool true) ∧ Below w0.heap.size w0 w') := alive19 _ T0.out
  clear hN hw0 r0 hT
  by_cases g1 : b.length < 1
  · have i1 : (b.length : Int) < 1 := by omega
    clear h
    go_enter Tryd.func6, Tryd.ntmps6
    go_wp2_with (go_at_call 8; rw [HW0.out, HN.out]; refine Calls.mono AL.out ?_; rintro e w1 ⟨rfl, b1⟩; obtain ⟨d0, d1⟩ := C0.out _ b1; have B1 : Hid (Below N w w1) := B0.out.trans (b1.mono N0.out); clear b1)
    go_ret
    exact ⟨rfl, by rw [HN.out]; exact B1.out⟩
  · have i1 : ¬ (b.length : Int) < 1 := by omega
    by_cases g2 : 1680 < b.length
    · have i2 : (1680 : Int) < (b.length : Int) := by omega
      clear h
      go_enter Tryd.func6, Tryd.ntmps6
      go_wp2_with (go_at_call 8; rw [HW0.out, HN.out]; refine Calls.mono AL.out ?_; rintro e w1 ⟨rfl, b1⟩; obtain ⟨d0, d1⟩ := C0.out _ b1; have B1 : Hid (Below N w w1) := B0.out.trans (b1.mono N0.out); clear b1)
      go_ret
      exact ⟨rfl, by rw [HN.out]; exact B1.out⟩
    · have i2 : ¬ (1680 : Int) < (b.length : Int) := by omega
      have i3 : ((m : Int) == 0) = true := by rw [beq_iff_eq]; omega
      clear h
      go_enter Tryd.func6, Tryd.ntmps6
      go_wp2_with (go_at_call 8; rw [HW0.out, HN.out]; refine Calls.mono AL.out ?_; rintro e w1 ⟨rfl, b1⟩; obtain ⟨d0, d1⟩ := C0.out _ b1; have B1 : Hid (Below N w w1) := B0.out.trans (b1.mono N0.out); clear b1)
      go_ret
      exact ⟨rfl, by rw [HN.out]; exact B1.out⟩

set_option maxRecDepth 20000 in
set_option maxHeartbeats 16000000 in
theorem bursts_go (a : Option Addr) (cap : Nat) (b : List Int) (s A0 m : Nat) (w : World) (hT : ErrT w) (hB : IsB w a b) (hbc : b.length ≤ cap) (hcm : cap ≤ maxLen) (h1 : 1 ≤ b.length) (h2 : b.length ≤ 1680) (hs : s < 256) (hA : A0 < 65536) (hm : m < 4294967296) (hm0 : m ≠ 0) :
    Calls Tryd.prog 6 #[.slice a b.length cap, .int .u8 (s : Nat), .agg #[.int .u16 (A0 : Nat), .int .u32 (m : Nat)]] w fun e w' => e = .returned (.bool true) ∧ Below w.heap.size w w' := by
  obtain ⟨N, hN⟩ : ∃ N, w.heap.size = N := ⟨_, rfl⟩
  have HN : Hid (w.heap.size = N) := hN
  obtain ⟨w0, hw0⟩ : ∃ w0, w.alloc (.cells #[.int .u16 (A0 : Nat), .int .u32 (m : Nat)] 64) = w0 := ⟨_, rfl⟩
  have HW0 : Hid (w.alloc (.cells #[.int .u16 (A0 : Nat), .int .u32 (m : Nat)] 64) = w0) := hw0
  have r0 : w0.heap[N]? = some (.cells #[.int .u16 (A0 : Nat), .int .u32 (m : Nat)] 64 (0, 0)) := by rw [← hw0, ← hN]; exact Go.heap_alloc_new w _
  have B0 : Hid (Below N w w0) := by show Below _ _ _; rw [← hw0, ← hN]; exact (Below.refl _ w).alloc (Nat.le_refl _) _
  obtain ⟨M, hM⟩ : ∃ M, w0.heap.size = M := ⟨_, rfl⟩
  have NM : Hid (N ≤ M) := by show _ ≤ _; have := B0.out.size; rw [hN, hM] at this; exact this
  have C0 : Hid (∀ w', Below M w0 w' → w'.cell? ⟨N, 0, none⟩ = some (.int .u16 (A0 : Nat)) ∧ w'.cell? ⟨N, 1, none⟩ = some (.int .u32 (m : Nat))) := fun w' bb => by
    rw [← hM] at bb
    have q : w'.heap[N]? = _ := (bb.block N (Array.getElem?_eq_some_iff.1 r0).1).trans r0
    exact ⟨cell_of_row _ _ 0 _ _ _ q, cell_of_row _ _ 1 _ _ _ q⟩
  have HT : Hid (∀ w', Below M w0 w' → ErrT w') := fun w' bb => hT.keep (by rw [hN]; exact B0.out.trans (bb.mono NM.out))
  have HBB : Hid (∀ w', Below M w0 w' → IsB w' a b) := fun w' bb => hB.keep (by rw [hN]; exact B0.out.trans (bb.mono NM.out))
  have MT : Hid (∀ w2, Below M w0 w2 → M ≤ w2.heap.size) := fun w2 bb => by rw [← hM]; exact bb.size
  have AL : Hid (Calls Tryd.prog 8 #[] w0 fun e w' => e = .returned (.bool true) ∧ Below M w0 w') := by
    have q := alive19 _ (HT.out _ (Below.refl _ _))
    rw [hM] at q; exact q
  obtain ⟨C, hC⟩ : ∃ C, cntC b.length = C := ⟨_, rfl⟩
  obtain ⟨L, hL⟩ : ∃ L, stepL s C = L := ⟨_, rfl⟩
  have lc : L.length = C := by rw [← hL, stepL_len]
  have LC : Hid (L.length = C) := lc
  have rng : ∀ x ∈ L, 1 ≤ x ∧ x ≤ 30 := fun x hx => by rw [← hL] at hx; exact stepL_rng x hx
  have RNG : Hid (∀ x ∈ L, -9223372036854775808 ≤ x ∧ x ≤ 9223372036854775807) := fun x hx => by have := rng x hx; omega
  obtain ⟨d, hd⟩ : ∃ d, wrD (newD 32) (wrC b L) C = d := ⟨_, rfl⟩
  have c1 : 1 ≤ C := by rw [← hC]; unfold cntC; omega
  have c30 : C ≤ 30 := by rw [← hC]; unfold cntC; omega
  have hap : apC L = true := by rw [← hL]; exact stepL_ap c30
  obtain ⟨f0, f1, f2, f3⟩ := flushed hB.1 h2 hC hL hd
  have dops : d.ops ≤ 1000000000 := by rw [← hd]; show 0 + C ≤ _; omega
  obtain ⟨F, hF⟩ : ∃ F, flushD d = F := ⟨_, rfl⟩
  rw [hF] at f1 f2 f3
  obtain ⟨σ, hσ⟩ : ∃ σ, F.sure = σ := ⟨_, rfl⟩
  have sg : ∀ i, i < 32 → (σ i).length = 64 ∧ AllB (σ i) := fun i hi => by rw [← hσ]; exact f2.sec i (by rw [f1]; exact hi)
  rw [hσ] at f3
  obtain ⟨D, hD⟩ : ∃ D, A0 / 512 = D := ⟨_, rfl⟩
  obtain ⟨aB, haB⟩ : ∃ x, A0 % 512 = x := ⟨_, rfl⟩
  obtain ⟨j, hj⟩ : ∃ j, D % C = j := ⟨_, rfl⟩
  have jC : j < C := by rw [← hj]; exact Nat.mod_lt _ (by omega)
  have jL : j < L.length := by rw [lc]; exact jC
  obtain ⟨t, ht⟩ : ∃ t, L[j].toNat = t := ⟨_, rfl⟩
  have rj := rng _ (List.getElem_mem jL)
  have lj : L[j] = (t : Int) := by omega
  have t30 : t ≤ 30 := by omega
  have LJ : Hid (L[j] = (t : Int)) := lj
  obtain ⟨s0, hs0⟩ : ∃ x, L.getD 0 0 = x := ⟨_, rfl⟩
  have HS0 : Hid (L.getD 0 0 = s0) := hs0
  have e0 : L.getD 0 0 = L[0]'(by omega) := getD_at _
  have q0 : -9223372036854775808 ≤ s0 ∧ s0 ≤ 9223372036854775807 := by rw [← hs0, e0]; exact RNG.out _ (List.getElem_mem _)
  have aB5 : aB < 512 := by rw [← haB]; exact Nat.mod_lt _ (by decide)
  have SG : Hid (∀ i, i < 32 → (σ i).length = 64) := fun i hi => (sg i hi).1
  have ST : Hid (BrC (σ t) (σ t) aB 0 0) := BrC.start (sg t (by omega)).2 (sg t (by omega)).1 aB
  have XL : Hid (∀ c : List Int, c.length = 64 → (secsL (updS σ t c) 32).length = 2048) := fun c hc => secsL_len (fun i hi => by
    unfold updS
    split
    · exact hc
    · exact (sg i hi).1)
  have XB : Hid (∀ c : List Int, AllB c → AllB (secsL (updS σ t c) 32)) := fun c hc => secsL_allB (fun i hi => by
    unfold updS
    split
    · exact hc
    · exact (sg i hi).2)
  have BO : Hid (∀ c e, BrC (σ t) c aB 32 e → (e = 0 → rdC (layD (secsL (updS σ t c) 32)) s0 (b.length : Nat) = (b, L, 0, -1)) ∧ (e ≠ 0 → rdC (layD (secsL (updS σ t c) 32)) s0 (b.length : Nat) = ([], [], 5, (t : Int)))) := fun c e hc => by
    have q := burst_out sg (by rw [lc, hC]) hap rng hB.1 h1 h2 f3 jL ht hc aB5
    rw [lj, hs0] at q
    exact q
  have LD : Hid (∀ w', Below M w0 w' → Calls Tryd.prog 27 #[.slice a b.length cap, .int .u8 (s : Nat)] w' fun e w2 => ∃ as0 cs B, w'.heap.size = B ∧ e = .returned (.tuple #[.pointer (some ⟨B + 2, 0, none⟩), .slice as0 C cs, .bool true]) ∧ IsD w2 B (B + 2) C d ∧ OwnsI w2 B as0 L cs ∧ Below w'.heap.size w' w2) := fun w' bb => by
    refine (laid_any a cap b s w' (HBB.out w' bb) hbc hcm h1 h2 hs).mono ?_
    rintro e w2 ⟨as0, cs, r1, r2, r3, r4⟩
    rw [hC] at r1 r2 r3
    rw [hL, hd] at r2
    rw [hL] at r3
    exact ⟨as0, cs, _, rfl, r1, r2, r3, r4⟩
  have FL : Hid (∀ w' B, IsD w' B (B + 2) C d → B ≤ w'.heap.size → Calls Tryd.prog 22 #[.pointer (some ⟨B + 2, 0, none⟩)] w' fun e w2 => e = .returned (.int .i64 0) ∧ IsD w2 B (B + 2) C F ∧ Turn B KC w' w2) := fun w' B hD hBl => by
    have q := flush_any B (B + 2) C d w' hD hBl (by omega) dops
    rw [f0, hF] at q; exact q
  have IM : Hid (∀ w' B, IsD w' B (B + 2) C F → Calls Tryd.prog 28 #[.pointer (some ⟨B + 2, 0, none⟩)] w' fun e w2 => e = .returned (.slice (some ⟨w'.heap.size, 0, none⟩) 2048 2048) ∧ RowB w2 w'.heap.size 5 (secsL (updS σ t (σ t)) 32) ∧ Below w'.heap.size w' w2) := fun w' B hD => by
    have q := image_any B (B + 2) C F w' hD
    unfold imageL at q
    rw [f1, hσ] at q
    rw [updS_same]
    exact q
  have LY : Hid (∀ (w' : World) (g : Nat) (X : List Int), IsB w' (some ⟨g, 0, none⟩) X → X.length = 2048 → Calls Tryd.prog 18 #[.slice (some ⟨g, 0, none⟩) 2048 2048] w' fun e w2 => ∃ b' K, e = .returned (.tuple #[.pointer (some ⟨b', 0, none⟩), .int .i64 0]) ∧ IsD w2 K b' 32 (layD X) ∧ Below w'.heap.size w' w2) := fun w' g X hX hl => by
    have q := lay_fit w'.heap.size (some ⟨g, 0, none⟩) 2048 X w' hX (by rw [hl]) (by rw [hl]; decide) (by rw [hl]; decide) (by rw [hl]; exact Nat.le_refl _) (by decide) (Nat.le_refl _)
    rw [hl] at q
    refine q.mono ?_
    rintro e w2 ⟨b', r1, r2, r3⟩
    exact ⟨b', _, r1, r2, r3⟩
  have RDN : Hid (∀ (w' : World) (K b' : Nat) (X : List Int), IsD w' K b' 32 (layD X) → rdC (layD X) s0 (b.length : Nat) = (b, L, 0, -1) → Calls Tryd.prog 24 #[.pointer (some ⟨b', 0, none⟩), .int .i64 s0, .int .i64 (b.length : Nat)] w' fun e w2 => ∃ ab cb as0 cs, e = .returned (.tuple #[.slice ab b.length cb, .slice as0 C cs, .nilIface]) ∧ Below w'.heap.size w' w2) := fun w' K b' X hD e => by
    have q := hread_any K b' 32 (layD X) s0 (b.length : Nat) w' hD q0
    rw [e] at q
    refine Calls.mono q ?_
    rintro e w2 ⟨ab, cb, as0, cs, ev, rfl, r1, r2, r3, r4⟩
    rcases r3 with ⟨rfl, _, _⟩ | ⟨r3, _⟩
    · exact ⟨ab, cb, as0, cs, by simp only [lc], r4⟩
    · exact absurd r3 (by show ¬ (1 : Int) ≤ 0; decide)
  have RDE : Hid (∀ (w' : World) (K b' : Nat) (X : List Int), IsD w' K b' 32 (layD X) → rdC (layD X) s0 (b.length : Nat) = ([], [], 5, (t : Int)) → Calls Tryd.prog 24 #[.pointer (some ⟨b', 0, none⟩), .int .i64 s0, .int .i64 (b.length : Nat)] w' fun e w2 => ∃ ab cb as0 cs ev, e = .returned (.tuple #[.slice ab 0 cb, .slice as0 0 cs, ev]) ∧ ErrIs w2 ev 5 (t : Int) ∧ Below w'.heap.size w' w2) := fun w' K b' X hD e => by
    have q := hread_any K b' 32 (layD X) s0 (b.length : Nat) w' hD q0
    rw [e] at q
    refine Calls.mono q ?_
    rintro e w2 ⟨ab, cb, as0, cs, ev, rfl, r1, r2, r3, r4⟩
    exact ⟨ab, cb, as0, cs, ev, rfl, r3, r4⟩
  have g1 : ¬ (b.length : Int) < 1 := by omega
  have g2 : ¬ (1680 : Int) < (b.length : Int) := by omega
  have g3 : ((m : Int) == 0) = false := by rw [beq_eq_false_iff_ne]; omega
  have g3' : ¬ (m : Int) = 0 := by omega
  have cz : ((C : Int) == 0) = false := by rw [beq_eq_false_iff_ne]; omega
  have cz' : ¬ (C : Int) = 0 := by omega
  have hD' : (A0 : Int).tdiv 512 = (D : Int) := by rw [Int.tdiv_eq_ediv_of_nonneg (by omega)]; omega
  have wD : IntKind.u16.wrap (D : Int) = (D : Int) := by rw [IntKind.wrap_u16]; omega
  have wD2 : IntKind.i64.wrap (D : Int) = (D : Int) := by rw [IntKind.wrap_i64]; omega
  have hJ' : (D : Int).tmod (C : Int) = (j : Int) := by rw [Int.tmod_eq_emod_of_nonneg (by omega), ← hj]; exact (Int.natCast_emod D C).symm
  have wJ : IntKind.i64.wrap (j : Int) = (j : Int) := by rw [IntKind.wrap_i64]; omega
  have jCi : (j : Int) < (C : Int) := by omega
  have cpos : (0 : Int) < (C : Int) := by omega
  have ta : (A0 : Int).tmod 512 = (aB : Int) := by rw [Int.tmod_eq_emod_of_nonneg (by omega)]; omega
  have wa16 : IntKind.u16.wrap (aB : Int) = (aB : Int) := by rw [IntKind.wrap_u16]; omega
  have wa64 : IntKind.i64.wrap (aB : Int) = (aB : Int) := by rw [IntKind.wrap_i64]; omega
  obtain ⟨T, hT64⟩ : ∃ T : Nat, 64 * t = T := ⟨_, rfl⟩
  have HT64 : Hid (64 * t = T) := hT64
  have eT : (64 : Int) * (t : Int) = (T : Int) := by omega
  have wT : IntKind.i64.wrap ((64 : Int) * (t : Int)) = (T : Int) := by rw [IntKind.wrap_i64]; omega
  have T19 : T ≤ 1920 := by omega
  have HC2 : Hid (2 ≤ 2) := Nat.le_refl _
  clear hN hw0 r0 hM hC hL hd hF hσ hB hT hbc hcm h1 h2 hs hap f0 f1 f2 f3 dops sg hD haB hj rj lj ht e0 hs0 rng lc hT64 hm0
  go_enter Tryd.func6, Tryd.ntmps6
  go_wp2_with (first
    | (go_at_call 8; rw [HW0.out, HN.out]; refine Calls.mono AL.out ?_; rintro e w1 ⟨rfl, b1⟩; obtain ⟨d0, d1⟩ := C0.out _ b1; have B1 : Hid (Below M w0 w1) := b1; clear b1)
    | (go_at_call 27; refine (LD.out _ B1.out).mono ?_; rintro e w2 ⟨al, cl, B, hBz, rfl, dl, ol, b2⟩; have MB : Hid (M ≤ B) := (by show _ ≤ _; rw [← hBz]; exact MT.out _ B1.out); have BS : Hid (B ≤ w2.heap.size) := (by show _ ≤ _; rw [← hBz]; exact b2.size); have D2 : Hid (IsD w2 B (B + 2) C d) := dl; have O2 : Hid (OwnsI w2 B al L cl) := ol; have B2 : Hid (Below M w0 w2) := B1.out.trans (b2.mono (MT.out _ B1.out)); clear dl ol b2 hBz)
    | (go_at_call 22; refine (FL.out _ _ D2.out BS.out).mono ?_; rintro e w3 ⟨rfl, d3, t3⟩; have D3 : Hid (IsD w3 B (B + 2) C F) := d3; have I3 : Hid (IsI w3 al L) := ownsI_isI RNG.out (O2.out.turn t3); have B3 : Hid (Below M w0 w3) := B2.out.trans ((t3.below BS.out).mono MB.out); obtain ⟨G, hG⟩ : ∃ G, w3.heap.size = G := ⟨_, rfl⟩; have HG : Hid (w3.heap.size = G) := hG; have MG : Hid (M ≤ G) := (by show _ ≤ _; rw [← hG]; exact MT.out _ B3.out); have BW : Hid (∀ wr, Below G w3 wr → Below M w0 wr) := (fun wr bb => B3.out.trans (bb.mono MG.out)); obtain ⟨gl, ol, rfl, zl, k0, _⟩ := I3.out.at' (k := 0) (by rw [LC.out]; omega); obtain ⟨gl', ol', el, _, kj, _⟩ := I3.out.at' (k := j) (by rw [LC.out]; omega); cases el; rw [Nat.add_zero] at k0; rw [← getD_at (l := L) (i := 0) (by rw [LC.out]; omega), HS0.out] at k0; rw [LJ.out] at kj; rw [hG] at zl; have KW : Hid (∀ wr, Below G w3 wr → wr.cell? ⟨gl, ol, none⟩ = some (.int .i64 s0) ∧ wr.cell? ⟨gl, ol + j, none⟩ = some (.int .i64 (t : Int))) := (fun wr bb => ⟨(bb.cell (p := ⟨gl, ol, none⟩) zl).trans k0, (bb.cell (p := ⟨gl, ol + j, none⟩) zl).trans kj⟩); clear d3 t3 hG zl k0 kj)
    | (go_at_call 28; refine (IM.out _ _ D3.out).mono ?_; rw [HG.out]; rintro e w4 ⟨rfl, r4, b4⟩; have R4 : Hid (RowB w4 G 5 (secsL (updS σ t (σ t)) 32)) := r4; have B4 : Hid (Below G w3 w4) := b4; obtain ⟨k0, kj⟩ := KW.out _ b4; obtain ⟨c0, c1'⟩ := C0.out _ (BW.out _ b4); clear r4 b4))
  go_loopw [12, 13] (fun tv kv wr => ∃ (k : Nat) (c : List Int) (e : Nat) (tb : Bool), k ≤ 32 ∧ kv = .int .i64 (k : Nat) ∧ tv = .bool tb ∧ tb = decide (e ≠ 0) ∧ BrC (σ t) c aB k e ∧ RowB wr G 5 (secsL (updS σ t c) 32) ∧ Below G w3 wr) (fun _ kv _ => 32 - (intOf kv).toNat)
  case atStart => exact ⟨0, σ t, 0, false, Nat.zero_le _, rfl, rfl, rfl, ST.out, R4.out, B4.out⟩
  case round =>
    obtain ⟨k, c, e, tb, hk, rfl, rfl, htb, hbr, hrow, hbel⟩ := hrel
    have HTB : Hid (tb = decide (e ≠ 0)) := htb
    have HBR : Hid (BrC (σ t) c aB k e) := hbr
    have HR : Hid (RowB wr G 5 (secsL (updS σ t c) 32)) := hrow
    have HB : Hid (Below G w3 wr) := hbel
    obtain ⟨c0, c1'⟩ := C0.out _ (BW.out _ hbel)
    clear htb hbr hrow hbel
    by_cases hk32 : k < 32
    · have hk32i : (k : Int) < 32 := by omega
      obtain ⟨P, hP⟩ : ∃ P, aB + k = P := ⟨_, rfl⟩
      have eP : (aB : Int) + (k : Int) = (P : Int) := by omega
      have wP : IntKind.i64.wrap ((aB : Int) + (k : Int)) = (P : Int) := by rw [IntKind.wrap_i64]; omega
      have HP : Hid (aB + k = P) := hP
      by_cases hodd : m / 2 ^ k % 2 = 1
      · have ht : ((m : Int) / 2 ^ k).tmod 2 = 1 := by rw [shr_bit, hodd]; rfl
        clear hodd
        by_cases hin : P < 512
        · have hin2 : (P : Int) < 512 := by omega
          obtain ⟨Q, hQ⟩ : ∃ Q, P / 8 = Q := ⟨_, rfl⟩
          obtain ⟨R, hR⟩ : ∃ R, P % 8 = R := ⟨_, rfl⟩
          have tq : (P : Int).tdiv 8 = (Q : Int) := by rw [Int.tdiv_eq_ediv_of_nonneg (by omega)]; omega
          have tr : (P : Int).tmod 8 = (R : Int) := by rw [Int.tmod_eq_emod_of_nonneg (by omega)]; omega
          obtain ⟨V, hV⟩ : ∃ V, T + Q = V := ⟨_, rfl⟩
          have eV : (T : Int) + (Q : Int) = (V : Int) := by omega
          have wV : IntKind.i64.wrap ((T : Int) + (Q : Int)) = (V : Int) := by rw [IntKind.wrap_i64]; omega
          have wQ : IntKind.i64.wrap (Q : Int) = (Q : Int) := by rw [IntKind.wrap_i64]; omega
          have wR : IntKind.i64.wrap (R : Int) = (R : Int) := by rw [IntKind.wrap_i64]; omega
          have V20 : (V : Int) < 2048 := by omega
          have V20' : V < 2048 := by omega
          have R8 : R < 8 := by omega
          have Q64 : Q < 64 := by omega
          have cl : c.length = 64 := HBR.out.len
          have vcell := HR.out.cell V (by rw [XL.out c cl]; exact V20')
          have vfr := HR.out.thawed V
          obtain ⟨v, hv⟩ : ∃ v, c.getD Q 0 = v := ⟨_, rfl⟩
          have ev : (secsL (updS σ t c) 32).getD V 0 = v := by
            have hu : ∀ i, i < 32 → (updS σ t c i).length = 64 := fun i hi => by
              unfold updS
              split
              · exact cl
              · exact SG.out i hi
            have q := secsL_part hu (show t < 32 by omega)
            rw [updS, if_pos rfl] at q
            have q2 : c.getD Q 0 = (((secsL (updS σ t c) 32).drop (64 * t)).take 64).getD Q 0 := by rw [q]
            rw [← hv, q2, ← hV, ← HT64.out]
            simp only [List.getD_eq_getElem?_getD, List.getElem?_take, if_pos Q64, List.getElem?_drop]
          rw [ev] at vcell
          have NB : Hid (BrC (σ t) (c.set Q (bits BinOp.xor IntKind.u8 v ((2 : Int) ^ R % 256))) aB (k + 1) (e ^^^ 2 ^ k)) := HBR.out.next hP hin hQ hR hv
          have NX : Hid (RowB (wr.setCell ⟨G, V, none⟩ (.int .u8 (bits BinOp.xor IntKind.u8 v ((2 : Int) ^ R % 256)))) G 5 (secsL (updS σ t (c.set Q (bits BinOp.xor IntKind.u8 v ((2 : Int) ^ R % 256)))) 32)) := by
            show RowB _ _ _ _
            rw [← secsL_set SG.out (by omega) cl Q64, show 64 * t + Q = V by rw [HT64.out, hV]]
            exact HR.out.set V _
          have NW : Hid (Below G w3 (wr.setCell ⟨G, V, none⟩ (.int .u8 (bits BinOp.xor IntKind.u8 v ((2 : Int) ^ R % 256))))) := HB.out.trans ((Only.set _ _ _ _).below (Nat.le_refl _))
          have NE : Hid (true = decide (e ^^^ 2 ^ k ≠ 0)) := (decide_eq_true (xor_pow_ne HBR.out.lt)).symm
          clear hQ hR hV hv ev cl hP
          go_wp2
          go_roundw
          case rel => exact ⟨k + 1, _, e ^^^ 2 ^ k, true, by omega, by go_num, rfl, NE.out, NB.out, NX.out, NW.out⟩
          case measure => simp [intOf]; omega
        · have hin2 : ¬ (P : Int) < 512 := by omega
          clear hP
          go_wp2
          go_roundw
          case rel => exact ⟨k + 1, c, e, tb, by omega, by go_num, rfl, HTB.out, HBR.out.skip, HR.out, HB.out⟩
          case measure => simp [intOf]; omega
      · have ht : ((m : Int) / 2 ^ k).tmod 2 = 0 := by rw [shr_bit, show m / 2 ^ k % 2 = 0 from by omega]; rfl
        clear hodd hP
        go_wp2
        go_roundw
        case rel => exact ⟨k + 1, c, e, tb, by omega, by go_num, rfl, HTB.out, HBR.out.skip, HR.out, HB.out⟩
        case measure => simp [intOf]; omega
    · obtain rfl : k = 32 := by omega
      obtain ⟨X, hX⟩ : ∃ X, secsL (updS σ t c) 32 = X := ⟨_, rfl⟩
      have hbo := BO.out c e HBR.out
      rw [hX] at hbo
      have XX : Hid (IsB wr (some ⟨G, 0, none⟩) X) := by
        have q := HR.out.isB (XB.out c HBR.out.bytes)
        rw [hX] at q; exact q
      have X2 : Hid (X.length = 2048) := by show _ = _; rw [← hX]; exact XL.out c HBR.out.len
      clear hX
      by_cases he : e = 0
      · obtain rfl : tb = false := by rw [HTB.out, he]; rfl
        have RX : Hid (rdC (layD X) s0 (b.length : Nat) = (b, L, 0, -1)) := hbo.1 he
        clear he hbo
        go_wp2_with (first
          | (go_at_call 18; refine (LY.out _ _ _ XX.out X2.out).mono ?_; rintro e6 w6 ⟨b6, K6, rfl, d6, bb6⟩; have D6 : Hid (IsD w6 K6 b6 32 (layD X)) := d6; have B6 : Hid (Below G w3 w6) := HB.out.trans (bb6.mono (by rw [← HG.out]; exact HB.out.size)); obtain ⟨k0, kj⟩ := KW.out _ B6.out; clear d6 bb6)
          | (go_at_call 24; refine (RDN.out _ _ _ _ D6.out RX.out).mono ?_; rintro e7 w7 ⟨a7, c7, i7, j7, rfl, b7⟩; have B7 : Hid (Below G w3 w7) := B6.out.trans (b7.mono (by rw [← HG.out]; exact B6.out.size)); clear b7))
        go_ret
        exact ⟨rfl, by rw [HN.out]; exact B0.out.trans ((BW.out _ B7.out).mono NM.out)⟩
      · obtain rfl : tb = true := by rw [HTB.out]; exact decide_eq_true he
        have RX : Hid (rdC (layD X) s0 (b.length : Nat) = ([], [], 5, (t : Int))) := hbo.2 he
        clear he hbo
        go_wp2_with (first
          | (go_at_call 18; refine (LY.out _ _ _ XX.out X2.out).mono ?_; rintro e6 w6 ⟨b6, K6, rfl, d6, bb6⟩; have D6 : Hid (IsD w6 K6 b6 32 (layD X)) := d6; have B6 : Hid (Below G w3 w6) := HB.out.trans (bb6.mono (by rw [← HG.out]; exact HB.out.size)); obtain ⟨k0, kj⟩ := KW.out _ B6.out; clear d6 bb6)
          | (go_at_call 24; refine (RDE.out _ _ _ _ D6.out RX.out).mono ?_; rintro e7 w7 ⟨a7, c7, i7, j7, ev, rfl, er, b7⟩; have E7 : Hid (ErrIs w7 ev 5 (t : Int)) := er; have B7 : Hid (Below G w3 w7) := B6.out.trans (b7.mono (by rw [← HG.out]; exact B6.out.size)); clear er b7)
          | (go_at_call 12; refine (code_any ev 5 (t : Int) _ E7.out).mono ?_; rintro e8 w8 ⟨rfl, b8⟩; have E8 : Hid (ErrIs w8 ev 5 (t : Int)) := E7.out.keep b8; have B8 : Hid (Below G w3 w8) := B7.out.trans (b8.mono (by rw [← HG.out]; exact B7.out.size)); clear b8)
          | (go_at_call 26; refine (sector_any ev 5 (t : Int) _ E8.out (HT.out _ (BW.out _ B8.out))).mono ?_; rintro e9 w9 ⟨rfl, b9⟩; have B9 : Hid (Below G w3 w9) := B8.out.trans (b9.mono (by rw [← HG.out]; exact B8.out.size)); clear b9))
        go_ret
        exact ⟨rfl, by rw [HN.out]; exact B0.out.trans ((BW.out _ B9.out).mono NM.out)⟩
/-- A turned burst of bits is met, at its sector. -/
theorem chainBursts_any (a : Option Addr) (cap : Nat) (b : List Int) (x at2 bi2 : Int) (w : World) (hB : IsB w a b) (hbc : b.length ≤ cap ∧ cap ≤ maxLen) (hN : a = none → b = [] ∧ cap = 0) (hx : ∃ m : Nat, x = m ∧ m < 256) (hA : 0 ≤ at2 ∧ at2 ≤ 65535) (hb : 0 ≤ bi2 ∧ bi2 ≤ 4294967295) (hT : ErrT w) :
    Calls Tryd.prog 6 #[.slice a b.length cap, .int .u8 x, .agg #[.int .u16 at2, .int .u32 bi2]] w fun e w' => e = .returned (.bool true) ∧ Below w.heap.size w w' := by
  obtain ⟨s, rfl, hs⟩ := hx
  obtain ⟨A0, rfl⟩ : ∃ A0 : Nat, at2 = A0 := ⟨at2.toNat, by omega⟩
  obtain ⟨m, rfl⟩ : ∃ m : Nat, bi2 = m := ⟨bi2.toNat, by omega⟩
  by_cases h : b.length < 1 ∨ 1680 < b.length ∨ m = 0
  · exact bursts_none a cap b s A0 m w hT (Nat.le_trans hbc.1 hbc.2) h
  · exact bursts_go a cap b s A0 m w hT hB hbc.1 hbc.2 (by omega) (by omega) hs (by omega) (by omega) (by omega)
end Go.Proofs.YtgmmgklcndnehaaDoor
