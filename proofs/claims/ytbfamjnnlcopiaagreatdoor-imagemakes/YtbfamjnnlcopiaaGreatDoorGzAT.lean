/- Layer 17: RoB again -/
import Derived.Test.YtbfamjnnlcopiaaGreatDoorAuB
import Derived.Test.YtbfamjnnlcopiaaGreatDoorMhA
import Derived.Test.YtbfamjnnlcopiaaGreatDoorGzAJ
import Derived.Test.YtbfamjnnlcopiaaGreatDoorGzAS
import Derived.WalkMore
namespace Go.Proofs.YtbfamjnnlcopiaaGreatDoor
open Go.RowKit
set_option linter.unusedVariables false
set_option maxRecDepth 4000
theorem Tg.ofGrown {g : Nat} {w w' : World} (h : w.grownBy w' (some g)) : Tg g w w' := ⟨h.os, h.tape, h.output, h.size, fun i hi hn => h.block i hi (fun e => hn (Option.some.inj e))⟩
theorem OwnsI.tg {g : Nat} {w w' : World} {base cap : Nat} {a : Option Addr} {l : List Int} (h : OwnsI w base a l cap) (t : Tg g w w') (hg : g < base) : OwnsI w' base a l cap := by
  obtain ⟨h0, h1 | ⟨g', c', cur, h1, hb, h2, h3⟩⟩ := h
  · exact ⟨h0, .inl h1⟩
  · exact ⟨h0, .inr ⟨g', c', cur, h1, hb, by rw [t.block g' (Array.getElem?_eq_some_iff.1 h2).1 (by omega)]; exact h2, h3⟩⟩
theorem RdAt.below {w w' : World} {B base : Nat} {l : List Int} {e : Int} (h : RdAt w B l e) (t : Below base w w') (hg : B < base) : RdAt w' B l e := by
  obtain ⟨a, cap, hh, h1, h2, h3, h4⟩ := h
  refine ⟨a, cap, (t.block B hg).trans hh, h1, h2, h3, ?_⟩
  rcases h4 with h4 | ⟨b, off, e1, e2, e3⟩
  · exact .inl h4
  · exact .inr ⟨b, off, e1, e2, fun i hi => by rw [t.cell (p := ⟨b, off + i, none⟩) (by show b < _; omega)]; exact e3 i hi⟩
theorem RdAt.allB {w : World} {B : Nat} {l : List Int} {e : Int} (h : RdAt w B l e) : AllB l := by
  obtain ⟨_, _, _, _, _, h3, _⟩ := h
  exact h3
theorem RdAt.lt {w : World} {B : Nat} {l : List Int} {e : Int} (h : RdAt w B l e) : B < w.heap.size := by
  obtain ⟨_, _, hh, _⟩ := h
  exact lt_of_block hh
theorem Tg.below2 {g base : Nat} {w w' w2 : World} (t : Tg g w w') (b : Below base w' w2) (hb : w.heap.size ≤ base) : Tg g w w2 := by
  refine ⟨b.os.trans t.os, b.tape.trans t.tape, b.output.trans t.output, by have := t.size; have := b.size; omega, fun i hi hn => ?_⟩
  rw [b.block i (by omega)]; exact t.block i hi hn

/-- A number is read without a fault ahead, and is small enough. -/
theorem readPlace_go (B : Nat) (l r : List Int) (f v : Int) (w : World) (h : RdAt w B l 0) (f0 : 0 ≤ f) (f1 : f ≤ 65535) (v0 : 0 ≤ v) (hu : upS l 0 18446744073709551615 = (v, r, 0)) (hv : v < (65535 - f) / 8) :
    Calls Tryz.prog 88 #[.pointer (some ⟨B, 0, none⟩), .int .i64 f] w fun e w' => e = .returned (.int .i64 (f + 8 * v)) ∧ RdAt w' B r 0 ∧ Tg B w w' := by
  have HR : Hid (RdAt w B l 0) := h
  have HU : Hid (upS l 0 18446744073709551615 = (v, r, 0)) := hu
  clear h hu
  go_enter Tryz.func88, Tryz.ntmps88
  go_wp2_with (go_at_call 112; refine (rvar_any B l 0 _ HR.out).mono ?_; rw [HU.out]; rintro e w1 ⟨rfl, r1, g1⟩)
  go_ret
  exact ⟨ret_int (by omega), r1, Tg.ofGrown g1⟩
/-- A number is read without a fault ahead, and is too great. -/
theorem readPlace_far (B : Nat) (l r : List Int) (f v : Int) (w : World) (h : RdAt w B l 0) (f0 : 0 ≤ f) (f1 : f ≤ 65535) (hu : upS l 0 18446744073709551615 = (v, r, 0)) (hv : (65535 - f) / 8 ≤ v) :
    Calls Tryz.prog 88 #[.pointer (some ⟨B, 0, none⟩), .int .i64 f] w fun e w' => e = .returned (.int .i64 0) ∧ RdAt w' B r 4 ∧ Tg B w w' := by
  have HR : Hid (RdAt w B l 0) := h
  have HU : Hid (upS l 0 18446744073709551615 = (v, r, 0)) := hu
  clear h hu
  go_enter Tryz.func88, Tryz.ntmps88
  go_wp2_with (first
    | (go_at_call 112; refine (rvar_any B l 0 _ HR.out).mono ?_; rw [HU.out]; rintro e w1 ⟨rfl, r1, g1⟩; have R1 : Hid (RdAt w1 B r 0) := r1; have G1 : Hid (Tg B w w1) := Tg.ofGrown g1; clear r1 g1)
    | (go_at_call 82; refine (fail_any B r 0 4 _ R1.out).mono ?_; rintro e w2 ⟨rfl, r2, g2⟩; have R2 : Hid (RdAt w2 B r 4) := r2; have G2 : Hid (Tg B w1 w2) := Tg.ofGrown g2; clear r2 g2))
  go_ret
  exact ⟨rfl, R2.out, G1.out.trans G2.out⟩
/-- There is a fault: nothing is told. -/
theorem readPlace_bad (B : Nat) (l : List Int) (f er : Int) (w : World) (h : RdAt w B l 0) (f0 : 0 ≤ f) (f1 : f ≤ 65535) (hu : upS l 0 18446744073709551615 = (0, l, er)) (he : er ≠ 0) :
    Calls Tryz.prog 88 #[.pointer (some ⟨B, 0, none⟩), .int .i64 f] w fun r w' => ∃ p, r = .returned (.int .i64 p) ∧ 0 ≤ p ∧ p ≤ 65535 ∧ RdAt w' B l er ∧ Tg B w w' := by
  have HR : Hid (RdAt w B l 0) := h
  have HU : Hid (upS l 0 18446744073709551615 = (0, l, er)) := hu
  have HF : Hid (failV er 4 = er) := if_neg he
  clear h hu
  by_cases h1 : 8 ≤ 65535 - f
  · have hd : 0 < (65535 - f) / 8 := by omega
    go_enter Tryz.func88, Tryz.ntmps88
    go_wp2_with (go_at_call 112; refine (rvar_any B l 0 _ HR.out).mono ?_; rw [HU.out]; rintro r w1 ⟨rfl, r1, g1⟩)
    go_ret
    exact ⟨f, rfl, f0, by omega, r1, Tg.ofGrown g1⟩
  · have hd : (65535 - f) / 8 = 0 := by omega
    go_enter Tryz.func88, Tryz.ntmps88
    go_wp2_with (first
      | (go_at_call 112; refine (rvar_any B l 0 _ HR.out).mono ?_; rw [HU.out]; rintro r w1 ⟨rfl, r1, g1⟩; have R1 : Hid (RdAt w1 B l er) := r1; have G1 : Hid (Tg B w w1) := Tg.ofGrown g1; clear r1 g1)
      | (go_at_call 82; refine (fail_any B l er 4 _ R1.out).mono ?_; rw [HF.out]; rintro r w2 ⟨rfl, r2, g2⟩; have R2 : Hid (RdAt w2 B l er) := r2; have G2 : Hid (Tg B w1 w2) := Tg.ofGrown g2; clear r2 g2))
    go_ret
    exact ⟨0, rfl, by omega, by omega, R2.out, G1.out.trans G2.out⟩

/-- Under way: so many places have been read. -/
structure RdS (w wr : World) (B N : Nat) (l2 : List Int) (k : Nat) (f : Int) (qs : List Int) (al : Option Addr) (cl : Nat) (lr : List Int) : Prop where
  rd : RdAt wr B lr 0
  own : OwnsI wr w.heap.size al qs cl
  tg : Tg B w wr
  all : AllI qs
  len : qs.length = k
  ph : fieldsK 65535 N 0 l2 [] = fieldsK 65535 (N - k) f lr qs
  f0 : 0 ≤ f
  f1 : f ≤ 65535
  ltB : B < w.heap.size
/-- A place more. -/
theorem RdS.next {w wr w2 w4 : World} {B N : Nat} {l2 : List Int} {k : Nat} {f : Int} {qs : List Int} {al : Option Addr} {cl : Nat} {lr : List Int} (h : RdS w wr B N l2 k f qs al cl lr)
    {p : Int} {lr' : List Int} (hr : RdAt w2 B lr' 0) (ht : Tg B wr w2) {a4 : Option Addr} {c4 : Nat} (o4 : OwnsI w4 w.heap.size a4 (qs ++ [p]) c4) (b4 : Below w.heap.size (w2.alloc (.cells #[.int .i64 p] 3)) w4) (p0 : 0 ≤ p) (p1 : p + 8 ≤ 65535)
    (hph : fieldsK 65535 N 0 l2 [] = fieldsK 65535 (N - (k + 1)) (p + 8) lr' (qs ++ [p])) :
    RdS w w4 B N l2 (k + 1) (p + 8) (qs ++ [p]) a4 c4 lr' := by
  have hltB := h.ltB
  have hs1 := h.tg.size
  have hs2 := ht.size
  have ba : Below w2.heap.size w2 (w2.alloc (.cells #[.int .i64 p] 3)) := (Below.refl _ _).alloc (Nat.le_refl _) _
  have b24 : Below w.heap.size w2 w4 := (ba.mono (by omega)).trans b4
  refine ⟨hr.below b24 hltB, o4, (h.tg.trans ht).below2 b24 (Nat.le_refl _), ?_, by simp [h.len], hph, by omega, p1, hltB⟩
  intro x hx
  rcases List.mem_append.1 hx with hx | hx
  · exact h.all x hx
  · simp at hx; subst hx; omega

/-- What Read leaves behind. -/
def ReadP (w : World) (B : Nat) (ps rest : List Int) (er : Int) (e : Ending) (w' : World) : Prop :=
  ∃ a' c' l', e = .returned (.slice a' ps.length c') ∧ IsI w' a' ps ∧ (a' = none → ps = [] ∧ c' = 0) ∧ RdAt w' B l' er ∧ (er = 0 → l' = rest) ∧ Tg B w w' ∧ (∀ ad, a' = some ad → w.heap.size ≤ ad.block) ∧ ps.length ≤ 8192

set_option maxHeartbeats 2000000 in
theorem oread_none (B : Nat) (l : List Int) (er : Int) (w : World) (h : RdAt w B l 0) (hu : upS l 0 8192 = (0, l, er)) (hne : er ≠ 0) :
    Calls Tryz.prog 52 #[.pointer (some ⟨B, 0, none⟩)] w (ReadP w B [] [] er) := by
  have HR : Hid (RdAt w B l 0) := h
  have HU : Hid (upS l 0 8192 = (0, l, er)) := hu
  clear h hu
  go_enter Tryz.func52, Tryz.ntmps52
  go_wp2_with fail
  refine (upto_any B l 0 8192 _ HR.out).mono ?_
  rw [HU.out]
  rintro r w1 ⟨rfl, r1, g1⟩
  have R1 : Hid (RdAt w1 B l er) := r1
  have T1 : Hid (Tg B w w1) := Tg.ofGrown g1
  clear r1 g1
  go_wp2
  refine wp_loop_rounds 1 ?_
  rw [rounds_succ]
  go_wp2
  go_ret
  exact ⟨none, 0, l, rfl, IsI.nil _ _, fun _ => ⟨rfl, rfl⟩, R1.out, fun h => absurd h hne, T1.out, (fun ad h => by cases h), by simp⟩

set_option maxHeartbeats 4000000 in
theorem oread_fields (B : Nat) (l l2 : List Int) (N : Nat) (qs rest : List Int) (er : Int) (w : World) (h : RdAt w B l 0) (hv : upS l 0 8192 = (((N : Nat) : Int), l2, 0)) (hN : N ≤ 8192) (hf : fieldsK 65535 N 0 l2 [] = (qs, rest, er)) :
    Calls Tryz.prog 52 #[.pointer (some ⟨B, 0, none⟩)] w (ReadP w B qs rest er) := by
  have HR : Hid (RdAt w B l 0) := h
  have HF : Hid (fieldsK 65535 N 0 l2 [] = (qs, rest, er)) := hf
  have HV : Hid (upS l 0 8192 = (((N : Nat) : Int), l2, 0)) := hv
  have hB := h.lt
  clear h hv hf
  go_enter Tryz.func52, Tryz.ntmps52
  go_wp2_with fail
  refine (upto_any B l 0 8192 _ HR.out).mono ?_
  rw [HV.out]
  rintro r w1 ⟨rfl, r1, g1⟩
  have S0 : Hid (RdS w w1 B N l2 0 0 [] none 0 l2) := ⟨r1, ownsI_none _ _, Tg.ofGrown g1, fun x hx => by (cases hx), rfl, rfl, by omega, by omega, hB⟩
  clear r1 g1
  go_wp2
  go_loopw [3, 4, 8] (fun ov fv iv wr => ∃ (k : Nat) (f : Int) (qs : List Int) (al : Option Addr) (cl : Nat) (lr : List Int), k ≤ N ∧ iv = .int .u64 k ∧ fv = .int .i64 f ∧ ov = .slice al qs.length cl ∧ RdS w wr B N l2 k f qs al cl lr) (fun _ _ iv _ => N - (intOf iv).toNat)
  case atStart => exact ⟨0, 0, [], none, 0, l2, Nat.zero_le _, rfl, rfl, rfl, S0.out⟩
  case round =>
    obtain ⟨k, f, ts, al, cl, lr, hk, rfl, rfl, rfl, hS⟩ := hrel
    have HS : Hid (RdS w wr B N l2 k f ts al cl lr) := hS
    have HPH : Hid (fieldsK 65535 N 0 l2 [] = fieldsK 65535 (N - k) f lr ts) := hS.ph
    have HLEN : Hid (ts.length = k) := hS.len
    have f0 := hS.f0
    have f1 := hS.f1
    have hbb := hS.rd.allB
    clear hS
    by_cases hlt : k < N
    · have hlen' : ts.length ≤ 100000 := by have := HLEN.out; omega
      obtain ⟨n, hn⟩ : ∃ n, N - k = n + 1 := ⟨N - k - 1, by omega⟩
      have hn' : N - (k + 1) = n := by omega
      rcases up_cases lr 18446744073709551615 hbb with ⟨v, r, hu, v0, v1, hl⟩ | ⟨e', hu, he'⟩
      · by_cases hvv : v < (65535 - f) / 8
        · have STEP : Hid (Calls Tryz.prog 88 #[.pointer (some ⟨B, 0, none⟩), .int .i64 f] wr fun e w' => e = .returned (.int .i64 (f + 8 * v)) ∧ RdAt w' B r 0 ∧ Tg B wr w') := readPlace_go B lr r f v wr HS.out.rd f0 f1 v0 hu hvv
          obtain ⟨p, hp⟩ : ∃ p, f + 8 * v = p := ⟨_, rfl⟩
          have p0 : 0 ≤ p := by omega
          have p1 : p + 8 ≤ 65535 := by omega
          have NP : Hid (fieldsK 65535 N 0 l2 [] = fieldsK 65535 (N - (k + 1)) (p + 8) r (ts ++ [p])) := by show _ = _; rw [HPH.out, hn, hn', fields_go hu hvv, hp]
          rw [hp] at STEP
          clear hp hl hvv hbb hu hn hn'
          go_wp2_with fail
          refine STEP.out.mono ?_
          rintro e w2 ⟨rfl, r2, t2⟩
          have R2 : Hid (RdAt w2 B r 0) := r2
          have T2 : Hid (Tg B wr w2) := t2
          have ltB := HS.out.ltB
          have hz2 : w.heap.size ≤ w2.heap.size := Nat.le_trans HS.out.tg.size T2.out.size
          have O2 : Hid (OwnsI (w2.alloc (.cells #[.int .i64 p] 3)) w.heap.size al ts cl) := (HS.out.own.tg t2 ltB).alloc _
          clear r2 t2
          go_wp2_with fail
          refine (err_any B r 0 _ R2.out).mono ?_
          rintro e w2' ⟨rfl, rfl⟩
          go_wp2_with (at_builtin; refine wpList_appi rfl _ _ rfl w.heap.size ?x1 al ts cl rfl O2.out (some ⟨w2.heap.size, 0, none⟩) [p] 1 rfl ?x2 ?x3 ?x4 ?x5 ?x6)
          case x1 => simp; omega
          case x2 => exact (one_isI w2 p (by omega))
          case x3 => exact (fun h => by cases h)
          case x4 => exact hlen'
          case x5 => simp
          intro a4 c4 w4 o4 b4
          have NX : Hid _ := HS.out.next R2.out T2.out o4 b4 p0 p1 NP.out
          clear o4 b4
          go_wp2
          go_roundw
          case rel => exact ⟨k + 1, p + 8, ts ++ [p], a4, c4, r, by omega, by go_num, rfl, by rw [List.length_append]; rfl, NX.out⟩
          case measure => simp [intOf]; omega
        · have hE : (([] : List Int), ([] : List Int), (4 : Int)) = (qs, rest, er) := by rw [← HF.out, HPH.out, hn, fields_far hu (by omega)]
          simp only [Prod.mk.injEq] at hE
          obtain ⟨rfl, rfl, rfl⟩ := hE
          have STEP : Hid (Calls Tryz.prog 88 #[.pointer (some ⟨B, 0, none⟩), .int .i64 f] wr fun e w' => e = .returned (.int .i64 0) ∧ RdAt w' B r 4 ∧ Tg B wr w') := readPlace_far B lr r f v wr HS.out.rd f0 f1 hu (by omega)
          clear hl hvv hbb hu hn hn'
          go_wp2_with fail
          refine STEP.out.mono ?_
          rintro e w2 ⟨rfl, r2, t2⟩
          have R2 : Hid (RdAt w2 B r 4) := r2
          have T2 : Hid (Tg B wr w2) := t2
          clear r2 t2
          go_wp2_with (go_at_call 85; refine (err_any B r 4 _ R2.out).mono ?_; rintro e w2' ⟨rfl, rfl⟩)
          go_ret
          exact ⟨none, 0, r, rfl, IsI.nil _ _, fun _ => ⟨rfl, rfl⟩, R2.out, fun h => absurd h (by omega), HS.out.tg.trans T2.out, (fun ad h => by cases h), by simp⟩
      · have hne : e' ≠ 0 := by omega
        have hq : (e' != 0) = true := by rw [bne_iff_ne]; exact hne
        have hE : (([] : List Int), ([] : List Int), e') = (qs, rest, er) := by rw [← HF.out, HPH.out, hn, fields_bad hu hne]
        simp only [Prod.mk.injEq] at hE
        obtain ⟨rfl, rfl, rfl⟩ := hE
        have STEP : Hid (Calls Tryz.prog 88 #[.pointer (some ⟨B, 0, none⟩), .int .i64 f] wr fun e w' => ∃ p, e = .returned (.int .i64 p) ∧ 0 ≤ p ∧ p ≤ 65535 ∧ RdAt w' B lr e' ∧ Tg B wr w') := readPlace_bad B lr f e' wr HS.out.rd f0 f1 hu hne
        clear hbb hu hn hn' he'
        go_wp2_with fail
        refine STEP.out.mono ?_
        rintro e w2 ⟨p, rfl, p0, p1, r2, t2⟩
        have R2 : Hid (RdAt w2 B lr e') := r2
        have T2 : Hid (Tg B wr w2) := t2
        clear r2 t2
        go_wp2_with (go_at_call 85; refine (err_any B lr e' _ R2.out).mono ?_; rintro e w2' ⟨rfl, rfl⟩)
        go_ret
        exact ⟨none, 0, lr, rfl, IsI.nil _ _, fun _ => ⟨rfl, rfl⟩, R2.out, fun h => absurd h hne, HS.out.tg.trans T2.out, (fun ad h => by cases h), by simp⟩
    · obtain rfl : k = N := by omega
      have hE : (ts, lr, (0 : Int)) = (qs, rest, er) := by rw [← HF.out, HPH.out, Nat.sub_self]; rfl
      simp only [Prod.mk.injEq] at hE
      obtain ⟨rfl, rfl, rfl⟩ := hE
      clear hbb
      go_wp2
      go_ret
      exact ⟨al, cl, lr, rfl, ownsI_isI HS.out.all HS.out.own, HS.out.own.parts.2.2.1, HS.out.rd, fun _ => rfl, HS.out.tg, fun ad h => (HS.out.own.parts.2.2.2 ad h).1, by rw [HLEN.out]; exact hN⟩

/-- What Read answers. -/
theorem oread_any (B : Nat) (l : List Int) (ps rest : List Int) (er : Int) (w : World) (h : RdAt w B l 0) (hk : readT l = (ps, rest, er)) :
    Calls Tryz.prog 52 #[.pointer (some ⟨B, 0, none⟩)] w (ReadP w B ps rest er) := by
  rcases up_cases l 8192 h.allB with ⟨v, r, hu, v0, v1, hl⟩ | ⟨e', hu, he⟩
  · rw [readT_go hu] at hk
    exact oread_fields B l r v.toNat ps rest er w h (by rw [hu, Int.toNat_of_nonneg v0]) (by omega) hk
  · rw [readT_bad hu (by omega)] at hk
    simp only [Prod.mk.injEq] at hk
    obtain ⟨rfl, rfl, rfl⟩ := hk
    exact oread_none B l e' w h hu (by omega)
end Go.Proofs.YtbfamjnnlcopiaaGreatDoor

/- Layer 17: RoF again -/
namespace Go.Proofs.YtbfamjnnlcopiaaGreatDoor
open Go.RowKit
set_option linter.unusedVariables false
set_option maxRecDepth 4000

end Go.Proofs.YtbfamjnnlcopiaaGreatDoor

/- Layer 17: RoD again -/
namespace Go.Proofs.YtbfamjnnlcopiaaGreatDoor
open Go.RowKit
set_option linter.unusedVariables false
set_option maxRecDepth 4000
end Go.Proofs.YtbfamjnnlcopiaaGreatDoor

/- Layer 17: RoE again -/
namespace Go.Proofs.YtbfamjnnlcopiaaGreatDoor
open Go.RowKit
set_option linter.unusedVariables false
set_option maxRecDepth 4000
/-- How far the bytes have come. -/
structure BtA (w wr : World) (l : List Int) (a' : Option Addr) (c' k : Nat) (f : Int) (L : List Int) : Prop where
  own : OwnsB wr w.heap.size a' L c'
  below : Below w.heap.size w wr
  body : bodyT l = L ++ gapsL f (l.drop k)
  placed : placedB 65535 f (l.drop k) = true
  f0 : 0 ≤ f
  f1 : f ≤ 65535
  f8 : f % 8 = 0
  len : L.length ≤ 20 + 10 * k
theorem bytesT_ok {l : List Int} (h : rrightT 65535 l = true) : bytesT l = bodyT l ∧ errT l = 0 := ⟨if_pos h, if_pos h⟩
theorem bytesT_no {l : List Int} (h : rrightT 65535 l = false) : bytesT l = [] ∧ errT l = 4 := ⟨if_neg (by rw [h]; decide), if_neg (by rw [h]; decide)⟩

set_option maxRecDepth 20000 in
set_option maxHeartbeats 4000000 in
theorem obytes_any (a : Option Addr) (c : Nat) (l : List Int) (w : World) (hI : IsI w a l) (hm : l.length ≤ maxLen) :
    Calls Tryz.prog 45 #[.slice a l.length c] w fun e w' => ∃ a' c', e = .returned (.tuple #[.slice a' (bytesT l).length c', .int .i64 (errT l)]) ∧ OwnsB w' w.heap.size a' (bytesT l) c' ∧ Below w.heap.size w w' := by
  have HI : Hid (IsI w a l) := hI
  have HM : Hid (l.length ≤ maxLen) := hm
  clear hI hm
  rcases hr : rrightT 65535 l with _ | _
  · obtain ⟨e1, e2⟩ := bytesT_no hr
    have HR : Hid (rrightT 65535 l = false) := hr
    rw [e1, e2]
    clear hr e1 e2
    go_enter Tryz.func45, Tryz.ntmps45
    go_wp2_with (go_at_call 74; refine (oright_is a c _ l 65535 false _ rfl HR.out HI.out HM.out (by omega)).mono ?_; rintro e w1 ⟨rfl, rfl⟩)
    go_ret2
    exact ⟨none, 0, rfl, World.ownsRow_nil _ _ _ _, Below.refl _ _⟩
  · obtain ⟨e1, e2⟩ := bytesT_ok hr
    have HR : Hid (rrightT 65535 l = true) := hr
    obtain ⟨l1, hpl⟩ := right_max.1 hr
    have EB : Hid (bytesT l = bodyT l) := e1
    have HP : Hid (placedB 65535 0 l = true) := hpl
    have V1 := varL_le (l.length : Nat)
    have E0 : Hid (bodyT l = varL (l.length : Nat) ++ gapsL 0 (l.drop 0)) := rfl
    have u2 : IntKind.u64.wrap ((l.length : Nat) : Int) = ((l.length : Nat) : Int) := by rw [IntKind.wrap_u64]; omega
    rw [e2]
    clear hr hpl e1 e2
    go_enter Tryz.func45, Tryz.ntmps45
    go_wp2_with fail
    refine (oright_is a c _ l 65535 true _ rfl HR.out HI.out HM.out (by omega)).mono ?_
    rintro e w1 ⟨rfl, rfl⟩
    go_wp2_with fail
    refine (var_any (l.length : Nat) _ (by omega) (by omega)).mono ?_
    rintro e w2 ⟨rfl, o2, b2⟩
    have S0 : Hid (BtA w w2 l (some ⟨w.heap.size, 0, none⟩) (varL (l.length : Nat)).length 0 0 (varL (l.length : Nat))) := ⟨o2, b2, E0.out, HP.out, by omega, by omega, by omega, by omega⟩
    clear o2 b2 u2
    go_wp2
    go_loopw [4, 5, 17] (fun bv fv iv wr => ∃ (k : Nat) (f : Int) (L : List Int) (a' : Option Addr) (c' : Nat), k ≤ l.length ∧ iv = .int .i64 k ∧ fv = .int .i64 (f) ∧ bv = .slice a' L.length c' ∧ BtA w wr l a' c' k f L) (fun _ _ iv _ => l.length - (intOf iv).toNat)
    case atStart => exact ⟨0, 0, _, _, _, Nat.zero_le _, rfl, rfl, rfl, S0.out⟩
    case round =>
      obtain ⟨k, f, L, a3, c3, hk, rfl, rfl, rfl, hA⟩ := hrel
      have HA : Hid (BtA w wr l a3 c3 k f L) := hA
      have f0 := hA.f0
      have f1 := hA.f1
      have f8 := hA.f8
      have hL := hA.len
      by_cases hlt : k < l.length
      · obtain ⟨hin, h0 | ⟨b, off, rfl, hsz, hc⟩⟩ := HI.out.keep hA.below
        · rw [h0] at hlt; simp at hlt
        have hcell := hc k hlt
        have EP := placed_step 65535 f l k hlt
        have EG := gaps_step f l k hlt
        obtain ⟨p, hp⟩ : ∃ p, l.getD k 0 = p := ⟨_, rfl⟩
        rw [hp] at hcell EP EG
        rw [hA.placed] at EP
        have EP' := EP.symm
        simp only [Bool.and_eq_true, decide_eq_true_eq] at EP'
        obtain ⟨⟨p0, p1, p8⟩, hnp⟩ := EP'
        obtain ⟨q, hq⟩ : ∃ q, (p - f) / 8 = q := ⟨_, rfl⟩
        have q0 : 0 ≤ q := by omega
        have q1 : q ≤ 8192 := by omega
        have HQ : Hid ((p - f) / 8 = q) := by show _ = _; omega
        rw [hq] at EG
        have V3 := varL_le q
        have HVQ : Hid (∀ x ∈ varL q, 0 ≤ x ∧ x ≤ 255) := varL_byte q (by omega) (by omega)
        have NX : Hid (∀ a' c' w', OwnsB w' w.heap.size a' (L ++ varL q) c' → Below w.heap.size w w' → BtA w w' l a' c' (k + 1) (p + 8) (L ++ varL q)) := fun a' c' w' o b =>
          ⟨o, b, by rw [hA.body, EG, List.append_assoc], hnp, by omega, by omega, by omega, by rw [List.length_append]; omega⟩
        clear hc hin hsz hp EP EG hnp hA hq
        go_wp2_with (first
          | (go_at_call 47; rw [HQ.out]; refine (var_any q _ q0 (by omega)).mono ?_; rintro e w3 ⟨rfl, o3, b3⟩; have O2 : Hid (OwnsB w3 _ _ (varL q) _) := o3; have B2 : Hid (Below w.heap.size w w3) := HA.out.below.trans (b3.mono HA.out.below.size); have A2 : Hid (OwnsB w3 w.heap.size a3 L c3) := HA.out.own.keep b3; have z2 := B2.out.size; clear o3 b3)
          | (at_builtin; refine rwpList_app rfl _ _ rfl w.heap.size z2 a3 L c3 rfl A2.out _ (varL q) _ rfl (ownsB_isB HVQ.out O2.out) (fun h => by cases h) (by omega) ?_; intro a4 c4 w4 o4 b4; have X4 : Hid (BtA w w4 l a4 c4 (k + 1) (p + 8) (L ++ varL q)) := NX.out a4 c4 w4 o4 (B2.out.trans b4); clear o4 b4))
        go_roundw
        case rel => exact ⟨k + 1, p + 8, _, a4, c4, by omega, by go_num, rfl, by rw [List.length_append], X4.out⟩
        case measure => simp [intOf]; omega
      · have EL : Hid (bytesT l = L) := by show _ = _; rw [EB.out, hA.body, gaps_end f l k (by omega), List.append_nil]
        clear hA
        go_wp2
        go_ret2
        rw [EL.out]
        exact ⟨a3, c3, rfl, HA.out.own, HA.out.below⟩

end Go.Proofs.YtbfamjnnlcopiaaGreatDoor

/- Layer 17: RoG again -/
namespace Go.Proofs.YtbfamjnnlcopiaaGreatDoor
open Go.RowKit
set_option linter.unusedVariables false
set_option maxRecDepth 4000
/-- Bytes in new memory, or none. -/
def NewB (w : World) (base : Nat) (a : Option Addr) (l : List Int) : Prop := AllB l ∧ (l = [] ∨ ∃ g, a = some ⟨g, 0, none⟩ ∧ base ≤ g ∧ RowB w g l)
theorem NewB.isB {w : World} {base : Nat} {a : Option Addr} {l : List Int} (h : NewB w base a l) : IsB w a l := by
  obtain ⟨h0, rfl | ⟨g, rfl, _, h2⟩⟩ := h
  · exact IsB.nil _ _
  · exact h2.isB h0
/-- Under way. -/
structure ApA (w wr : World) (b l : List Int) (fr t n : Int) (g k : Nat) : Prop where
  row : RowB wr g (goT fr t b (l.take k) b)
  below : Below w.heap.size w wr
  ge : w.heap.size ≤ g
  all : allT fr n b (l.take k) = true
theorem allT_snoc {fr n : Int} {b l : List Int} {k : Nat} (hk : k < l.length) : allT fr n b (l.take (k + 1)) = (allT fr n b (l.take k) && decide (inT fr n (wordT b (l.getD k 0)))) := by
  rw [List.take_succ_eq_append_getElem hk, allT, List.all_append]
  simp [allT, List.getD, hk]
end Go.Proofs.YtbfamjnnlcopiaaGreatDoor

/- Layer 17: RoH again -/
namespace Go.Proofs.YtbfamjnnlcopiaaGreatDoor
open Go.RowKit
set_option linter.unusedVariables false
set_option maxRecDepth 4000
theorem ApA.zero {w w1 : World} {b l : List Int} {fr t n : Int} {g : Nat} (hr : RowB w1 g b) (hb : Below w.heap.size w w1) (hg : w.heap.size ≤ g) : ApA w w1 b l fr t n g 0 := ⟨hr, hb, hg, rfl⟩
theorem ApA.stay {w wr : World} {b l : List Int} {fr t n : Int} {g k : Nat} (h : ApA w wr b l fr t n g k) (hk : k < l.length) (h0 : wordT b (l.getD k 0) = 0) : ApA w wr b l fr t n g (k + 1) := by
  refine ⟨?_, h.below, h.ge, ?_⟩
  · rw [goT_take fr t b l b k hk, stepT, if_pos h0]; exact h.row
  · rw [allT_snoc hk, h.all, h0]; simp [inT]
theorem ApA.next {w wr w1 : World} {b l : List Int} {fr t n : Int} {g k : Nat} (h : ApA w wr b l fr t n g k) (hk : k < l.length) (h0 : wordT b (l.getD k 0) ≠ 0) (hin : inT fr n (wordT b (l.getD k 0)))
    (hr : RowB w1 g (overR (goT fr t b (l.take k) b) (l.getD k 0).toNat (putL 8 (wordT b (l.getD k 0) - fr + t)))) (hb : Below w.heap.size wr w1) : ApA w w1 b l fr t n g (k + 1) := by
  refine ⟨?_, h.below.trans hb, h.ge, ?_⟩
  · rw [goT_take fr t b l b k hk, stepT, if_neg h0]; exact hr
  · rw [allT_snoc hk, h.all, decide_eq_true hin]; rfl

end Go.Proofs.YtbfamjnnlcopiaaGreatDoor

/- Layer 17: RoI again -/
namespace Go.Proofs.YtbfamjnnlcopiaaGreatDoor
open Go.RowKit
set_option linter.unusedVariables false
set_option maxRecDepth 4000
end Go.Proofs.YtbfamjnnlcopiaaGreatDoor

/- Layer 17: NumRd again -/
namespace Go.Proofs.YtbfamjnnlcopiaaGreatDoor
open Go.RowKit
set_option linter.unusedVariables false
set_option maxRecDepth 4000
theorem end_long (B : Nat) (a : Option Addr) (n cap : Nat) (w : World) (h0 : w.cell? ⟨B, 0, none⟩ = some (.slice a n cap)) (h : w.cell? ⟨B, 1, none⟩ = some (.int .i64 0)) (hn : (0 : Int) < (n : Int)) :
    Calls Tryz.prog 54 #[.pointer (some ⟨B, 0, none⟩)] w fun r w' => r = .returned (.int .i64 6) ∧ w = w' := by
  go_enter Tryz.func54, Tryz.ntmps54
  go_wp2_with (go_at_call 89; refine (left_ok B a n cap _ h0 h).mono ?_; rintro r w' ⟨rfl, rfl⟩)
  go_ret
  exact ⟨rfl, rfl⟩

theorem end_ok (B : Nat) (a : Option Addr) (cap : Nat) (w : World) (h0 : w.cell? ⟨B, 0, none⟩ = some (.slice a 0 cap)) (h : w.cell? ⟨B, 1, none⟩ = some (.int .i64 0)) :
    Calls Tryz.prog 54 #[.pointer (some ⟨B, 0, none⟩)] w fun r w' => r = .returned (.int .i64 0) ∧ w = w' := by
  go_enter Tryz.func54, Tryz.ntmps54
  go_wp2_with (first
    | (go_at_call 89; refine (left_ok B a 0 cap _ h0 h).mono ?_; rintro r w' ⟨rfl, rfl⟩)
    | (go_at_call 85; refine (err_two B 0 _ h).mono ?_; rintro r w' ⟨rfl, rfl⟩))
  go_ret
  exact ⟨rfl, rfl⟩

theorem end_fault (B : Nat) (e : Int) (w : World) (h : w.cell? ⟨B, 1, none⟩ = some (.int .i64 e)) (he : (e != 0) = true) :
    Calls Tryz.prog 54 #[.pointer (some ⟨B, 0, none⟩)] w fun r w' => r = .returned (.int .i64 e) ∧ w = w' := by
  go_enter Tryz.func54, Tryz.ntmps54
  go_wp2_with (first
    | (go_at_call 89; refine (left_fault B e _ h he).mono ?_; rintro r w' ⟨rfl, rfl⟩)
    | (go_at_call 85; refine (err_two B e _ h).mono ?_; rintro r w' ⟨rfl, rfl⟩))
  go_ret
  exact ⟨rfl, rfl⟩

end Go.Proofs.YtbfamjnnlcopiaaGreatDoor
