/- Layer 17: RoB again -/
import Derived.Test.YtbfamjnnlcopiaaGreatDoorAuB
import Derived.Test.YtbfamjnnlcopiaaGreatDoorMhA
import Derived.Test.YtbfamjnnlcopiaaGreatDoorGzAJ
import Derived.Test.YtbfamjnnlcopiaaGreatDoorGzAR
import Derived.WalkMore
namespace Go.Proofs.YtbfamjnnlcopiaaGreatDoor
open Go.RowKit
set_option linter.unusedVariables false
set_option maxRecDepth 4000
theorem Tg.ofGrown {g : Nat} {w w' : World} (h : w.grownBy w' (some g)) : Tg g w w' := ⟨h.os, h.tape, h.output, h.size, fun i hi hn => h.block i hi (fun e => hn (Option.some.inj e))⟩
theorem OwnsI.tg {g : Nat} {w w' : World} {base cap : Nat} {a : Option Addr} {l : List Int} (h : OwnsI w base a l cap) (t : Tg g w w') (hg : g < base) : OwnsI w' base a l cap := by
  obtain ⟨h0, h1 | ⟨g', c', cur, h1, hb, h2, h3⟩⟩ := h
  · exact ⟨h0, .inl h1⟩
  · exact ⟨h0, .inr ⟨g', c', cur, h1, hb, by rw [t.block g' (Array.getElem?_eq_some_iff.1 h2).1 (by omega)]; exact h2, h3⟩⟩
theorem RdAt.below {w w' : World} {B base : Nat} {l : List Int} {e : Int} (h : RdAt w B l e) (t : Below base w w') (hg : B < base) : RdAt w' B l e := by
  obtain ⟨a, cap, hh, h1, h2, h3, h4⟩ := h
  refine ⟨a, cap, (t.block B hg).trans hh, h1, h2, h3, ?_⟩
  rcases h4 with h4 | ⟨b, off, e1, e2, e3⟩
  · exact .inl h4
  · exact .inr ⟨b, off, e1, e2, fun i hi => by rw [t.cell (p := ⟨b, off + i, none⟩) (by show b < _; omega)]; exact e3 i hi⟩
theorem RdAt.allB {w : World} {B : Nat} {l : List Int} {e : Int} (h : RdAt w B l e) : AllB l := by
  obtain ⟨_, _, _, _, _, h3, _⟩ := h
  exact h3
theorem RdAt.lt {w : World} {B : Nat} {l : List Int} {e : Int} (h : RdAt w B l e) : B < w.heap.size := by
  obtain ⟨_, _, hh, _⟩ := h
  exact lt_of_block hh
theorem Tg.below2 {g base : Nat} {w w' w2 : World} (t : Tg g w w') (b : Below base w' w2) (hb : w.heap.size ≤ base) : Tg g w w2 := by
  refine ⟨b.os.trans t.os, b.tape.trans t.tape, b.output.trans t.output, by have := t.size; have := b.size; omega, fun i hi hn => ?_⟩
  rw [b.block i (by omega)]; exact t.block i hi hn

/-- A number is read without a fault ahead, and is small enough. -/
theorem readPlace_go (B : Nat) (l r : List Int) (f v : Int) (w : World) (h : RdAt w B l 0) (f0 : 0 ≤ f) (f1 : f ≤ 65535) (v0 : 0 ≤ v) (hu : upS l 0 18446744073709551615 = (v, r, 0)) (hv : v < (65535 - f) / 8) :
    Calls Tryz.prog 88 #[.pointer (some ⟨B, 0, none⟩), .int .i64 f] w fun e w' => e = .returned (.int .i64 (f + 8 * v)) ∧ RdAt w' B r 0 ∧ Tg B w w' := by
  have HR : Hid (RdAt w B l 0) := h
  have HU : Hid (upS l 0 18446744073709551615 = (v, r, 0)) := hu
  clear h hu
  go_enter Tryz.func88, Tryz.ntmps88
  go_wp2_with (go_at_call 112; refine (rvar_any B l 0 _ HR.out).mono ?_; rw [HU.out]; rintro e w1 ⟨rfl, r1, g1⟩)
  go_ret
  exact ⟨ret_int (by omega), r1, Tg.ofGrown g1⟩
/-- A number is read without a fault ahead, and is too great. -/
theorem readPlace_far (B : Nat) (l r : List Int) (f v : Int) (w : World) (h : RdAt w B l 0) (f0 : 0 ≤ f) (f1 : f ≤ 65535) (hu : upS l 0 18446744073709551615 = (v, r, 0)) (hv : (65535 - f) / 8 ≤ v) :
    Calls Tryz.prog 88 #[.pointer (some ⟨B, 0, none⟩), .int .i64 f] w fun e w' => e = .returned (.int .i64 0) ∧ RdAt w' B r 4 ∧ Tg B w w' := by
  have HR : Hid (RdAt w B l 0) := h
  have HU : Hid (upS l 0 18446744073709551615 = (v, r, 0)) := hu
  clear h hu
  go_enter Tryz.func88, Tryz.ntmps88
  go_wp2_with (first
    | (go_at_call 112; refine (rvar_any B l 0 _ HR.out).mono ?_; rw [HU.out]; rintro e w1 ⟨rfl, r1, g1⟩; have R1 : Hid (RdAt w1 B r 0) := r1; have G1 : Hid (Tg B w w1) := Tg.ofGrown g1; clear r1 g1)
    | (go_at_call 82; refine (fail_any B r 0 4 _ R1.out).mono ?_; rintro e w2 ⟨rfl, r2, g2⟩; have R2 : Hid (RdAt w2 B r 4) := r2; have G2 : Hid (Tg B w1 w2) := Tg.ofGrown g2; clear r2 g2))
  go_ret
  exact ⟨rfl, R2.out, G1.out.trans G2.out⟩
/-- There is a fault: nothing is told. -/
theorem readPlace_bad (B : Nat) (l : List Int) (f er : Int) (w : World) (h : RdAt w B l 0) (f0 : 0 ≤ f) (f1 : f ≤ 65535) (hu : upS l 0 18446744073709551615 = (0, l, er)) (he : er ≠ 0) :
    Calls Tryz.prog 88 #[.pointer (some ⟨B, 0, none⟩), .int .i64 f] w fun r w' => ∃ p, r = .returned (.int .i64 p) ∧ 0 ≤ p ∧ p ≤ 65535 ∧ RdAt w' B l er ∧ Tg B w w' := by
  have HR : Hid (RdAt w B l 0) := h
  have HU : Hid (upS l 0 18446744073709551615 = (0, l, er)) := hu
  have HF : Hid (failV er 4 = er) := if_neg he
  clear h hu
  by_cases h1 : 8 ≤ 65535 - f
  · have hd : 0 < (65535 - f) / 8 := by omega
    go_enter Tryz.func88, Tryz.ntmps88
    go_wp2_with (go_at_call 112; refine (rvar_any B l 0 _ HR.out).mono ?_; rw [HU.out]; rintro r w1 ⟨rfl, r1, g1⟩)
    go_ret
    exact ⟨f, rfl, f0, by omega, r1, Tg.ofGrown g1⟩
  · have hd : (65535 - f) / 8 = 0 := by omega
    go_enter Tryz.func88, Tryz.ntmps88
    go_wp2_with (first
      | (go_at_call 112; refine (rvar_any B l 0 _ HR.out).mono ?_; rw [HU.out]; rintro r w1 ⟨rfl, r1, g1⟩; have R1 : Hid (RdAt w1 B l er) := r1; have G1 : Hid (Tg B w w1) := Tg.ofGrown g1; clear r1 g1)
      | (go_at_call 82; refine (fail_any B l er 4 _ R1.out).mono ?_; rw [HF.out]; rintro r w2 ⟨rfl, r2, g2⟩; have R2 : Hid (RdAt w2 B l er) := r2; have G2 : Hid (Tg B w1 w2) := Tg.ofGrown g2; clear r2 g2))
    go_ret
    exact ⟨0, rfl, by omega, by omega, R2.out, G1.out.trans G2.out⟩

/-- Under way: so many places have been read. -/
structure RdS (w wr : World) (B N : Nat) (l2 : List Int) (k : Nat) (f : Int) (qs : List Int) (al : Option Addr) (cl : Nat) (lr : List Int) : Prop where
  rd : RdAt wr B lr 0
  own : OwnsI wr w.heap.size al qs cl
  tg : Tg B w wr
  all : AllI qs
  len : qs.length = k
  ph : fieldsK 65535 N 0 l2 [] = fieldsK 65535 (N - k) f lr qs
  f0 : 0 ≤ f
  f1 : f ≤ 65535
  ltB : B < w.heap.size
/-- A place more. -/
theorem RdS.next {w wr w2 w4 : World} {B N : Nat} {l2 : List Int} {k : Nat} {f : Int} {qs : List Int} {al : Option Addr} {cl : Nat} {lr : List Int} (h : RdS w wr B N l2 k f qs al cl lr)
    {p : Int} {lr' : List Int} (hr : RdAt w2 B lr' 0) (ht : Tg B wr w2) {a4 : Option Addr} {c4 : Nat} (o4 : OwnsI w4 w.heap.size a4 (qs ++ [p]) c4) (b4 : Below w.heap.size (w2.alloc (.cells #[.int .i64 p] 3)) w4) (p0 : 0 ≤ p) (p1 : p + 8 ≤ 65535)
    (hph : fieldsK 65535 N 0 l2 [] = fieldsK 65535 (N - (k + 1)) (p + 8) lr' (qs ++ [p])) :
    RdS w w4 B N l2 (k + 1) (p + 8) (qs ++ [p]) a4 c4 lr' := by
  have hltB := h.ltB
  have hs1 := h.tg.size
  have hs2 := ht.size
  have ba : Below w2.heap.size w2 (w2.alloc (.cells #[.int .i64 p] 3)) := (Below.refl _ _).alloc (Nat.le_refl _) _
  have b24 : Below w.heap.size w2 w4 := (ba.mono (by omega)).trans b4
  refine ⟨hr.below b24 hltB, o4, (h.tg.trans ht).below2 b24 (Nat.le_refl _), ?_, by simp [h.len], hph, by omega, p1, hltB⟩
  intro x hx
  rcases List.mem_append.1 hx with hx | hx
  · exact h.all x hx
  · simp at hx; subst hx; omega

/-- What Read leaves behind. -/
def ReadP (w : World) (B : Nat) (ps rest : List Int) (er : Int) (e : Ending) (w' : World) : Prop :=
  ∃ a' c' l', e = .returned (.slice a' ps.length c') ∧ IsI w' a' ps ∧ (a' = none → ps = [] ∧ c' = 0) ∧ RdAt w' B l' er ∧ (er = 0 → l' = rest) ∧ Tg B w w' ∧ (∀ ad, a' = some ad → w.heap.size ≤ ad.block) ∧ ps.length ≤ 8192

set_option maxHeartbeats 2000000 in
theorem oread_none (B : Nat) (l : List Int) (er : Int) (w : World) (h : RdAt w B l 0) (hu : upS l 0 8192 = (0, l, er)) (hne : er ≠ 0) :
    Calls Tryz.prog 52 #[.pointer (some ⟨B, 0, none⟩)] w (ReadP w B [] [] er) := by
  have HR : Hid (RdAt w B l 0) := h
  have HU : Hid (upS l 0 8192 = (0, l, er)) := hu
  clear h hu
  go_enter Tryz.func52, Tryz.ntmps52
  go_wp2_with fail
  refine (upto_any B l 0 8192 _ HR.out).mono ?_
  rw [HU.out]
  rintro r w1 ⟨rfl, r1, g1⟩
  have R1 : Hid (RdAt w1 B l er) := r1
  have T1 : Hid (Tg B w w1) := Tg.ofGrown g1
  clear r1 g1
  go_wp2
  refine wp_loop_rounds 1 ?_
  rw [rounds_succ]
  go_wp2
  go_ret
  exact ⟨none, 0, l, rfl, IsI.nil _ _, fun _ => ⟨rfl, rfl⟩, R1.out, fun h => absurd h hne, T1.out, (fun ad h => by cases h), by simp⟩

set_option maxHeartbeats 4000000 in
theorem oread_fields (B : Nat) (l l2 : List Int) (N : Nat) (qs rest : List Int) (er : Int) (w : World) (h : RdAt w B l 0) (hv : upS l 0 8192 = (((N : Nat) : Int), l2, 0)) (hN : N ≤ 8192) (hf : fieldsK 65535 N 0 l2 [] = (qs, rest, er)) :
    Calls Tryz.prog 52 #[.pointer (some ⟨B, 0, none⟩)] w (ReadP w B qs rest er) := by
  have HR : Hid (RdAt w B l 0) := h
  have HF : Hid (fieldsK 65535 N 0 l2 [] = (qs, rest, er)) := hf
  have HV : Hid (upS l 0 8192 = (((N : Nat) : Int), l2, 0)) := hv
  have hB := h.lt
  clear h hv hf
  go_enter Tryz.func52, Tryz.ntmps52
  go_wp2_with fail
  refine (upto_any B l 0 8192 _ HR.out).mono ?_
  rw [HV.out]
  rintro r w1 ⟨rfl, r1, g1⟩
  have S0 : Hid (RdS w w1 B N l2 0 0 [] none 0 l2) := ⟨r1, ownsI_none _ _, Tg.ofGrown g1, fun x hx => by (cases hx), rfl, rfl, by omega, by omega, hB⟩
  clear r1 g1
  go_wp2
  go_loopw [3, 4, 8] (fun ov fv iv wr => ∃ (k : Nat) (f : Int) (qs : List Int) (al : Option Addr) (cl : Nat) (lr : List Int), k ≤ N ∧ iv = .int .u64 k ∧ fv = .int .i64 f ∧ ov = .slice al qs.length cl ∧ RdS w wr B N l2 k f qs al cl lr) (fun _ _ iv _ => N - (intOf iv).toNat)
  case atStart => exact ⟨0, 0, [], none, 0, l2, Nat.zero_le _, rfl, rfl, rfl, S0.out⟩
  case round =>
    obtain ⟨k, f, ts, al, cl, lr, hk, rfl, rfl, rfl, hS⟩ := hrel
    have HS : Hid (RdS w wr B N l2 k f ts al cl lr) := hS
    have HPH : Hid (fieldsK 65535 N 0 l2 [] = fieldsK 65535 (N - k) f lr ts) := hS.ph
    have HLEN : Hid (ts.length = k) := hS.len
    have f0 := hS.f0
    have f1 := hS.f1
    have hbb := hS.rd.allB
    clear hS
    by_cases hlt : k < N
    · have hlen' : ts.length ≤ 100000 := by have := HLEN.out; omega
      obtain ⟨n, hn⟩ : ∃ n, N - k = n + 1 := ⟨N - k - 1, by omega⟩
      have hn' : N - (k + 1) = n := by omega
      rcases up_cases lr 18446744073709551615 hbb with ⟨v, r, hu, v0, v1, hl⟩ | ⟨e', hu, he'⟩
      · by_cases hvv : v < (65535 - f) / 8
        · have STEP : Hid (Calls Tryz.prog 88 #[.pointer (some ⟨B, 0, none⟩), .int .i64 f] wr fun e w' => e = .returned (.int .i64 (f + 8 * v)) ∧ RdAt w' B r 0 ∧ Tg B wr w') := readPlace_go B lr r f v wr HS.out.rd f0 f1 v0 hu hvv
          obtain ⟨p, hp⟩ : ∃ p, f + 8 * v = p := ⟨_, rfl⟩
          have p0 : 0 ≤ p := by omega
          have p1 : p + 8 ≤ 65535 := by omega
          have NP : Hid (fieldsK 65535 N 0 l2 [] = fieldsK 65535 (N - (k + 1)) (p + 8) r (ts ++ [p])) := by show _ = _; rw [HPH.out, hn, hn', fields_go hu hvv, hp]
          rw [hp] at STEP
          clear hp hl hvv hbb hu hn hn'
          go_wp2_with fail
          refine STEP.out.mono ?_
          rintro e w2 ⟨rfl, r2, t2⟩
          have R2 : Hid (RdAt w2 B r 0) := r2
          have T2 : Hid (Tg B wr w2) := t2
          have ltB := HS.out.ltB
          have hz2 : w.heap.size ≤ w2.heap.size := Nat.le_trans HS.out.tg.size T2.out.size
          have O2 : Hid (OwnsI (w2.alloc (.cells #[.int .i64 p] 3)) w.heap.size al ts cl) := (HS.out.own.tg t2 ltB).alloc _
          clear r2 t2
          go_wp2_with fail
          refine (err_any B r 0 _ R2.out).mono ?_
          rintro e w2' ⟨rfl, rfl⟩
          go_wp2_with (at_builtin; refine wpList_appi rfl _ _ rfl w.heap.size ?x1 al ts cl rfl O2.out (some ⟨w2.heap.size, 0, none⟩) [p] 1 rfl ?x2 ?x3 ?x4 ?x5 ?x6)
          case x1 => simp; omega
          case x2 => exact (one_isI w2 p (by omega))
          case x3 => exact (fun h => by cases h)
          case x4 => exact hlen'
          case x5 => simp
          intro a4 c4 w4 o4 b4
          have NX : Hid _ := HS.out.next R2.out T2.out o4 b4 p0 p1 NP.out
          clear o4 b4
          go_wp2
          go_roundw
          case rel => exact ⟨k + 1, p + 8, ts ++ [p], a4, c4, r, by omega, by go_num, rfl, by rw [List.length_append]; rfl, NX.out⟩
          case measure => simp [intOf]; omega
        · have hE : (([] : List Int), ([] : List Int), (4 : Int)) = (qs, rest, er) := by rw [← HF.out, HPH.out, hn, fields_far hu (by omega)]
          simp only [Prod.mk.injEq] at hE
          obtain ⟨rfl, rfl, rfl⟩ := hE
          have STEP : Hid (Calls Tryz.prog 88 #[.pointer (some ⟨B, 0, none⟩), .int .i64 f] wr fun e w' => e = .returned (.int .i64 0) ∧ RdAt w' B r 4 ∧ Tg B wr w') := readPlace_far B lr r f v wr HS.out.rd f0 f1 hu (by omega)
          clear hl hvv hbb hu hn hn'
          go_wp2_with fail
          refine STEP.out.mono ?_
          rintro e w2 ⟨rfl, r2, t2⟩
          have R2 : Hid (RdAt w2 B r 4) := r2
          have T2 : Hid (Tg B wr w2) := t2
          clear r2 t2
          go_wp2_with (go_at_call 85; refine (err_any B r 4 _ R2.out).mono ?_; rintro e w2' ⟨rfl, rfl⟩)
          go_ret
          exact ⟨none, 0, r, rfl, IsI.nil _ _, fun _ => ⟨rfl, rfl⟩, R2.out, fun h => absurd h (by omega), HS.out.tg.trans T2.out, (fun ad h => by cases h), by simp⟩
      · have hne : e' ≠ 0 := by omega
        have hq : (e' != 0) = true := by rw [bne_iff_ne]; exact hne
        have hE : (([] : List Int), ([] : List Int), e') = (qs, rest, er) := by rw [← HF.out, HPH.out, hn, fields_bad hu hne]
        simp only [Prod.mk.injEq] at hE
        obtain ⟨rfl, rfl, rfl⟩ := hE
        have STEP : Hid (Calls Tryz.prog 88 #[.pointer (some ⟨B, 0, none⟩), .int .i64 f] wr fun e w' => ∃ p, e = .returned (.int .i64 p) ∧ 0 ≤ p ∧ p ≤ 65535 ∧ RdAt w' B lr e' ∧ Tg B wr w') := readPlace_bad B lr f e' wr HS.out.rd f0 f1 hu hne
        clear hbb hu hn hn' he'
        go_wp2_with fail
        refine STEP.out.mono ?_
        rintro e w2 ⟨p, rfl, p0, p1, r2, t2⟩
        have R2 : Hid (RdAt w2 B lr e') := r2
        have T2 : Hid (Tg B wr w2) := t2
        clear r2 t2
        go_wp2_with (go_at_call 85; refine (err_any B lr e' _ R2.out).mono ?_; rintro e w2' ⟨rfl, rfl⟩)
        go_ret
        exact ⟨none, 0, lr, rfl, IsI.nil _ _, fun _ => ⟨rfl, rfl⟩, R2.out, fun h => absurd h hne, HS.out.tg.trans T2.out, (fun ad h => by cases h), by simp⟩
    · obtain rfl : k = N := by omega
      have hE : (ts, lr, (0 : Int)) = (qs, rest, er) := by rw [← HF.out, HPH.out, Nat.sub_self]; rfl
      simp only [Prod.mk.injEq] at hE
      obtain ⟨rfl, rfl, rfl⟩ := hE
      clear hbb
      go_wp2
      go_ret
      exact ⟨al, cl, lr, rfl, ownsI_isI HS.out.all HS.out.own, HS.out.own.parts.2.2.1, HS.out.rd, fun _ => rfl, HS.out.tg, fun ad h => (HS.out.own.parts.2.2.2 ad h).1, by rw [HLEN.out]; exact hN⟩

/-- What Read answers. -/
theorem oread_any (B : Nat) (l : List Int) (ps rest : List Int) (er : Int) (w : World) (h : RdAt w B l 0) (hk : readT l = (ps, rest, er)) :
    Calls Tryz.prog 52 #[.pointer (some ⟨B, 0, none⟩)] w (ReadP w B ps rest er) := by
  rcases up_cases l 8192 h.allB with ⟨v, r, hu, v0, v1, hl⟩ | ⟨e', hu, he⟩
  · rw [readT_go hu] at hk
    exact oread_fields B l r v.toNat ps rest er w h (by rw [hu, Int.toNat_of_nonneg v0]) (by omega) hk
  · rw [readT_bad hu (by omega)] at hk
    simp only [Prod.mk.injEq] at hk
    obtain ⟨rfl, rfl, rfl⟩ := hk
    exact oread_none B l e' w h hu (by omega)
end Go.Proofs.YtbfamjnnlcopiaaGreatDoor

/- Layer 17: RoF again -/
namespace Go.Proofs.YtbfamjnnlcopiaaGreatDoor
open Go.RowKit
set_option linter.unusedVariables false
set_option maxRecDepth 4000

end Go.Proofs.YtbfamjnnlcopiaaGreatDoor

/- Layer 17: RoD again -/
namespace Go.Proofs.YtbfamjnnlcopiaaGreatDoor
open Go.RowKit
set_option linter.unusedVariables false
set_option maxRecDepth 4000
end Go.Proofs.YtbfamjnnlcopiaaGreatDoor

/- Layer 17: RoE again -/
namespace Go.Proofs.YtbfamjnnlcopiaaGreatDoor
open Go.RowKit
set_option linter.unusedVariables false
set_option maxRecDepth 4000
/-- How far the bytes have come. -/
structure BtA (w wr : World) (l : List Int) (a' : Option Addr) (c' k : Nat) (f : Int) (L : List Int) : Prop where
  own : OwnsB wr w.heap.size a' L c'
  below : Below w.heap.size w wr
  body : bodyT l = L ++ gapsL f (l.drop k)
  placed : placedB 65535 f (l.drop k) = true
  f0 : 0 ≤ f
  f1 : f ≤ 65535
  f8 : f % 8 = 0
  len : L.length ≤ 20 + 10 * k
theorem bytesT_ok {l : List Int} (h : rrightT 65535 l = true) : bytesT l = bodyT l ∧ errT l = 0 := ⟨if_pos h, if_pos h⟩
theorem bytesT_no {l : List Int} (h : rrightT 65535 l = false) : bytesT l = [] ∧ errT l = 4 := ⟨if_neg (by rw [h]; decide), if_neg (by rw [h]; decide)⟩

set_option maxRecDepth 20000 in
set_option maxHeartbeats 4000000 in
theorem obytes_any (a : Option Addr) (c : Nat) (l : List Int) (w : World) (hI : IsI w a l) (hm : l.length ≤ maxLen) :
    Calls Tryz.prog 45 #[.slice a l.length c] w fun e w' => ∃ a' c', e = .returned (.tuple #[.slice a' (bytesT l).length c', .int .i64 (errT l)]) ∧ OwnsB w' w.heap.size a' (bytesT l) c' ∧ Below w.heap.size w w' := by
  have HI : Hid (IsI w a l) := hI
  have HM : Hid (l.length ≤ maxLen) := hm
  clear hI hm
  rcases hr : rrightT 65535 l with _ | _
  · obtain ⟨e1, e2⟩ := bytesT_no hr
    have HR : Hid (rrightT 65535 l = false) := hr
    rw [e1, e2]
    clear hr e1 e2
    go_enter Tryz.func45, Tryz.ntmps45
    go_wp2_with (go_at_call 74; refine (oright_is a c _ l 65535 false _ rfl HR.out HI.out HM.out (by omega)).mono ?_; rintro e w1 ⟨rfl, rfl⟩)
    go_ret2
    exact ⟨none, 0, rfl, World.ownsRow_nil _ _ _ _, Below.refl _ _⟩
  · obtain ⟨e1, e2⟩ := bytesT_ok hr
    have HR : Hid (rrightT 65535 l = true) := hr
    obtain ⟨l1, hpl⟩ := right_max.1 hr
    have EB : Hid (bytesT l = bodyT l) := e1
    have HP : Hid (placedB 65535 0 l = true) := hpl
    have V1 := varL_le (l.length : Nat)
    have E0 : Hid (bodyT l = varL (l.length : Nat) ++ gapsL 0 (l.drop 0)) := rfl
    have u2 : IntKind.u64.wrap ((l.length : Nat) : Int) = ((l.length : Nat) : Int) := by rw [IntKind.wrap_u64]; omega
    rw [e2]
    clear hr hpl e1 e2
    go_enter Tryz.func45, Tryz.ntmps45
    go_wp2_with fail
    refine (oright_is a c _ l 65535 true _ rfl HR.out HI.out HM.out (by omega)).mono ?_
    rintro e w1 ⟨rfl, rfl⟩
    go_wp2_with fail
    refine (var_any (l.length : Nat) _ (by omega) (by omega)).mono ?_
    rintro e w2 ⟨rfl, o2, b2⟩
    have S0 : Hid (BtA w w2 l (some ⟨w.heap.size, 0, none⟩) (varL (l.length : Nat)).length 0 0 (varL (l.length : Nat))) := ⟨o2, b2, E0.out, HP.out, by omega, by omega, by omega, by omega⟩
    clear o2 b2 u2
    go_wp2
    go_loopw [4, 5, 17] (fun bv fv iv wr => ∃ (k : Nat) (f : Int) (L : List Int) (a' : Option Addr) (c' : Nat), k ≤ l.length ∧ iv = .int .i64 k ∧ fv = .int .i64 (f) ∧ bv = .slice a' L.length c' ∧ BtA w wr l a' c' k f L) (fun _ _ iv _ => l.length - (intOf iv).toNat)
    case atStart => exact ⟨0, 0, _, _, _, Nat.zero_le _, rfl, rfl, rfl, S0.out⟩
    case round =>
      obtain ⟨k, f, L, a3, c3, hk, rfl, rfl, rfl, hA⟩ := hrel
      have HA : Hid (BtA w wr l a3 c3 k f L) := hA
      have f0 := hA.f0
      have f1 := hA.f1
      have f8 := hA.f8
      have hL := hA.len
      by_cases hlt : k < l.length
      · obtain ⟨hin, h0 | ⟨b, off, rfl, hsz, hc⟩⟩ := HI.out.keep hA.below
        · rw [h0] at hlt; simp at hlt
        have hcell := hc k hlt
        have EP := placed_step 65535 f l k hlt
        have EG := gaps_step f l k hlt
        obtain ⟨p, hp⟩ : ∃ p, l.getD k 0 = p := ⟨_, rfl⟩
        rw [hp] at hcell EP EG
        rw [hA.placed] at EP
        have EP' := EP.symm
        simp only [Bool.and_eq_true, decide_eq_true_eq] at EP'
        obtain ⟨⟨p0, p1, p8⟩, hnp⟩ := EP'
        obtain ⟨q, hq⟩ : ∃ q, (p - f) / 8 = q := ⟨_, rfl⟩
        have q0 : 0 ≤ q := by omega
        have q1 : q ≤ 8192 := by omega
        have HQ : Hid ((p - f) / 8 = q) := by show _ = _; omega
        rw [hq] at EG
        have V3 := varL_le q
        have HVQ : Hid (∀ x ∈ varL q, 0 ≤ x ∧ x ≤ 255) := varL_byte q (by omega) (by omega)
        have NX : Hid (∀ a' c' w', OwnsB w' w.heap.size a' (L ++ varL q) c' → Below w.heap.size w w' → BtA w w' l a' c' (k + 1) (p + 8) (L ++ varL q)) := fun a' c' w' o b =>
          ⟨o, b, by rw [hA.body, EG, List.append_assoc], hnp, by omega, by omega, by omega, by rw [List.length_append]; omega⟩
        clear hc hin hsz hp EP EG hnp hA hq
        go_wp2_with (first
          | (go_at_call 47; rw [HQ.out]; refine (var_any q _ q0 (by omega)).mono ?_; rintro e w3 ⟨rfl, o3, b3⟩; have O2 : Hid (OwnsB w3 _ _ (varL q) _) := o3; have B2 : Hid (Below w.heap.size w w3) := HA.out.below.trans (b3.mono HA.out.below.size); have A2 : Hid (OwnsB w3 w.heap.size a3 L c3) := HA.out.own.keep b3; have z2 := B2.out.size; clear o3 b3)
          | (at_builtin; refine rwpList_app rfl _ _ rfl w.heap.size z2 a3 L c3 rfl A2.out _ (varL q) _ rfl (ownsB_isB HVQ.out O2.out) (fun h => by cases h) (by omega) ?_; intro a4 c4 w4 o4 b4; have X4 : Hid (BtA w w4 l a4 c4 (k + 1) (p + 8) (L ++ varL q)) := NX.out a4 c4 w4 o4 (B2.out.trans b4); clear o4 b4))
        go_roundw
        case rel => exact ⟨k + 1, p + 8, _, a4, c4, by omega, by go_num, rfl, by rw [List.length_append], X4.out⟩
        case measure => simp [intOf]; omega
      · have EL : Hid (bytesT l = L) := by show _ = _; rw [EB.out, hA.body, gaps_end f l k (by omega), List.append_nil]
        clear hA
        go_wp2
        go_ret2
        rw [EL.out]
        exact ⟨a3, c3, rfl, HA.out.own, HA.out.below⟩

end Go.Proofs.YtbfamjnnlcopiaaGreatDoor

/- Layer 17: RoG again -/
namespace Go.Proofs.YtbfamjnnlcopiaaGreatDoor
open Go.RowKit
set_option linter.unusedVariables false
set_option maxRecDepth 4000
theorem rmake_T (w : World) (n : Nat) (hn : n ≤ 140737488355328) : (Instr.makeSlice 25 (.int .i64 (n : Nat)) (.int .i64 (n : Nat))).run Tryz.prog w = .ok (.slice (some ⟨w.heap.size, 0, none⟩) n n) (w.alloc (.cells (cellsB (List.replicate n 0)).toArray 5)) := by
  obtain ⟨i0, hi0, hz0, hs0, hb0⟩ := info_parts Tryz.info5
  have h := run_make (P := Tryz.prog) w 25 5 i0 _ Tryz.underlying25 hi0 hz0 .i64 .i64 (n : Int) (n : Int) (by omega) (Int.le_refl _) (by rw [hb0]; omega) (by omega)
  rw [h, hs0]
  simp only [Int.toNat_natCast, Value.cells, Nat.mul_one, made_B]
theorem IsB.partR {w : World} {bb off : Nat} {b : List Int} (h : IsB w (some ⟨bb, off, none⟩) b) (o k : Nat) : IsB w (some ⟨bb, off + o, none⟩) ((b.drop o).take k) := by
  obtain ⟨hb, h0 | ⟨b', off', e, h1, h2⟩⟩ := h
  · subst h0; exact ⟨by simp, .inl (by simp)⟩
  · simp only [Option.some.injEq, Addr.mk.injEq, and_true] at e
    obtain ⟨rfl, rfl⟩ := e
    refine ⟨fun x hx => hb x (List.mem_of_mem_drop (List.mem_of_mem_take hx)), .inr ⟨bb, off + o, rfl, h1, fun i hi => ?_⟩⟩
    simp at hi
    rw [show off + o + i = off + (o + i) from by omega, h2 (o + i) (by omega)]
    simp [List.getD_eq_getElem?_getD, List.getElem?_drop, show i < k by omega]
theorem step_copyB {ops : Array Oper} {o : Oper} {a : Act} {K : Act → World → Prop} {Q : Exit → Act → World → Prop} {E : Prop} {w : World} (hgd : o.guard = none) (s x : Operand)
    (ho : o.op = .call { callee := .builtin .copy, args := #[s, x], argTypes := #[25, 25] }) (v1 v2 : Value) (hs : a.eval s = v1) (hx : a.eval x = v2) (v' : Value) (w' : World)
    (hr : (Builtin.copy_ #[25, 25] o.type #[v1, v2]).run Tryz.prog w = .ok v' w') (h : K (a.put o.dst v') w') :
    if Region.wanted o (yielded ops a.tmps) = true then Oper.wp Tryz.prog o a w K Q else E := by
  have hw : Region.wanted o (yielded ops a.tmps) = true := by simp [Region.wanted, hgd]
  rw [if_pos hw]
  unfold Oper.wp execOp
  simp only [ho, resolve, invoke, builtin, Sem.run_bind, Sem.run_pure, Result.andThen_ok, List.map_toArray, List.map_cons, List.map_nil, hs, hx, hr]
  exact h

theorem owithin_any (x fr n : Int) (w : World) (x0 : 0 ≤ x) (x1 : x ≤ 18446744073709551615) (f0 : 0 ≤ fr) (f1 : fr ≤ 1099511627776) (n0 : 0 ≤ n) (n1 : n ≤ 1048576) :
    Calls Tryz.prog 90 #[.int .u64 x, .int .i64 fr, .int .i64 n] w fun e w' => e = .returned (.bool (decide (fr ≤ x ∧ x - fr < n))) ∧ w = w' := by
  by_cases h1 : fr ≤ x
  · by_cases h2 : x - fr < n
    · rw [decide_eq_true ⟨h1, h2⟩]
      go_enter Tryz.func90, Tryz.ntmps90
      go_wp2
      go_ret
      exact ⟨ret_bool (by simp), rfl⟩
    · rw [decide_eq_false (fun q => h2 q.2)]
      go_enter Tryz.func90, Tryz.ntmps90
      go_wp2
      go_ret
      exact ⟨ret_bool (by simp), rfl⟩
  · rw [decide_eq_false (fun q => h1 q.1)]
    go_enter Tryz.func90, Tryz.ntmps90
    go_wp2
    go_ret
    exact ⟨rfl, rfl⟩
theorem owithin_of (x fr n : Int) (v : Bool) (w : World) (hv : decide (fr ≤ x ∧ x - fr < n) = v) (x0 : 0 ≤ x) (x1 : x ≤ 18446744073709551615) (f0 : 0 ≤ fr) (f1 : fr ≤ 1099511627776) (n0 : 0 ≤ n) (n1 : n ≤ 1048576) :
    Calls Tryz.prog 90 #[.int .u64 x, .int .i64 fr, .int .i64 n] w fun e w' => e = .returned (.bool v) ∧ w = w' := by
  subst hv; exact owithin_any x fr n w x0 x1 f0 f1 n0 n1

/-- Bytes in new memory, or none. -/
def NewB (w : World) (base : Nat) (a : Option Addr) (l : List Int) : Prop := AllB l ∧ (l = [] ∨ ∃ g, a = some ⟨g, 0, none⟩ ∧ base ≤ g ∧ RowB w g l)
theorem NewB.isB {w : World} {base : Nat} {a : Option Addr} {l : List Int} (h : NewB w base a l) : IsB w a l := by
  obtain ⟨h0, rfl | ⟨g, rfl, _, h2⟩⟩ := h
  · exact IsB.nil _ _
  · exact h2.isB h0
/-- What Apply leaves behind. -/
def ApplyP (w : World) (R : List Int) (E : Int) (e : Ending) (w' : World) : Prop :=
  ∃ a' c', e = .returned (.tuple #[.slice a' R.length c', .int .i64 E]) ∧ NewB w' w.heap.size a' R ∧ R.length ≤ c' ∧ c' ≤ maxLen ∧ (a' = none → R = [] ∧ c' = 0) ∧ Below w.heap.size w w'
/-- Under way. -/
structure ApA (w wr : World) (b l : List Int) (fr t n : Int) (g k : Nat) : Prop where
  row : RowB wr g (goT fr t b (l.take k) b)
  below : Below w.heap.size w wr
  ge : w.heap.size ≤ g
  all : allT fr n b (l.take k) = true
theorem allT_snoc {fr n : Int} {b l : List Int} {k : Nat} (hk : k < l.length) : allT fr n b (l.take (k + 1)) = (allT fr n b (l.take k) && decide (inT fr n (wordT b (l.getD k 0)))) := by
  rw [List.take_succ_eq_append_getElem hk, allT, List.all_append]
  simp [allT, List.getD, hk]
theorem allT_not {fr n : Int} {b l : List Int} {k : Nat} (hk : k < l.length) (h : ¬ inT fr n (wordT b (l.getD k 0))) : allT fr n b l = false := by
  unfold allT
  rw [List.all_eq_false]
  refine ⟨l.getD k 0, by simp [List.getD, hk], ?_⟩
  simpa using h

set_option maxHeartbeats 4000000 in
/-- The bases or the number may not be. -/
theorem oapply_arg (a al : Option Addr) (c cl : Nat) (b l : List Int) (fr t n : Int) (w : World) (h : ¬ argT fr t n) :
    Calls Tryz.prog 58 #[.slice a b.length c, .slice al l.length cl, .int .i64 fr, .int .i64 t, .int .i64 n] w (ApplyP w (applyB b l fr t n) (applyE b l fr t n)) := by
  obtain ⟨e1, e2⟩ := apply_arg (b := b) (l := l) h
  rw [e1, e2]
  clear e1 e2
  have FIN : Hid (ApplyP w [] 2 (.returned (.tuple #[.slice none 0 0, .int .i64 2])) w) := ⟨none, 0, rfl, ⟨AllB.nil, .inl rfl⟩, by simp, Nat.zero_le _, fun _ => ⟨rfl, rfl⟩, Below.refl _ _⟩
  by_cases g1 : goodR fr
  · have G1 : Hid (decide (goodR fr) = true) := decide_eq_true g1
    by_cases g2 : goodR t
    · have G2 : Hid (decide (goodR t) = true) := decide_eq_true g2
      have hn : n < 0 ∨ (0 ≤ n ∧ 1048576 < n) := by
        by_cases q : n < 0
        · exact .inl q
        · refine .inr ⟨by omega, ?_⟩
          by_cases q2 : 1048576 < n
          · exact q2
          · exact absurd ⟨g1, g2, by omega, by omega⟩ h
      clear h g1 g2
      rcases hn with q | ⟨q, q'⟩
      all_goals
        go_enter Tryz.func58, Tryz.ntmps58
        go_wp2
        go_step3
        go_wp2_with (first | (go_at_call_of 55 t; refine (good_of t true _ G2.out).mono ?_; rintro e w1 ⟨rfl, rfl⟩) | (go_at_call_of 55 fr; refine (good_of fr true _ G1.out).mono ?_; rintro e w1 ⟨rfl, rfl⟩))
        (try rw [Exit.noGoto_ret])
        go_ret2
        exact FIN.out
    · have G2 : Hid (decide (goodR t) = false) := decide_eq_false g2
      clear h g1 g2
      go_enter Tryz.func58, Tryz.ntmps58
      go_wp2
      go_step3
      go_wp2_with (first | (go_at_call_of 55 t; refine (good_of t false _ G2.out).mono ?_; rintro e w1 ⟨rfl, rfl⟩) | (go_at_call_of 55 fr; refine (good_of fr true _ G1.out).mono ?_; rintro e w1 ⟨rfl, rfl⟩))
      (try rw [Exit.noGoto_ret])
      go_ret2
      exact FIN.out
  · have G1 : Hid (decide (goodR fr) = false) := decide_eq_false g1
    clear h g1
    go_enter Tryz.func58, Tryz.ntmps58
    go_wp2
    go_step3
    go_wp2_with (go_at_call_of 55 fr; refine (good_of fr false _ G1.out).mono ?_; rintro e w1 ⟨rfl, rfl⟩)
    (try rw [Exit.noGoto_ret])
    go_ret2
    exact FIN.out
end Go.Proofs.YtbfamjnnlcopiaaGreatDoor
