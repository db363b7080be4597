/- Layer 17: RoF again -/
import Derived.Test.YtbajchidpffbpaaDoorAuB
import Derived.Test.YtbajchidpffbpaaDoorMhA
import Derived.Test.YtbajchidpffbpaaDoorGtH
namespace Go.Proofs.YtbajchidpffbpaaDoor
open Go.RowKit
set_option linter.unusedVariables false
set_option maxRecDepth 4000
theorem RfAt.below {w w' : World} {lo M base : Nat} {l : List Int} {e : Int} (h : RfAt w lo M l e) (t : Below base w w') (hg : M < base) : RfAt w' lo M l e := by
  obtain ⟨a, cap, hh, h1, h2, h3, h4⟩ := h
  refine ⟨a, cap, (t.block M hg).trans hh, h1, h2, h3, ?_⟩
  rcases h4 with h4 | ⟨b, off, e1, e0, e2, e3⟩
  · exact .inl h4
  · exact .inr ⟨b, off, e1, e0, e2, fun i hi => by rw [t.cell (p := ⟨b, off + i, none⟩) (by show b < _; omega)]; exact e3 i hi⟩
theorem RfAt.allB {w : World} {lo M : Nat} {l : List Int} {e : Int} (h : RfAt w lo M l e) : AllB l := by
  obtain ⟨_, _, _, _, _, h3, _⟩ := h
  exact h3
theorem RfAt.lt {w : World} {lo M : Nat} {l : List Int} {e : Int} (h : RfAt w lo M l e) : M < w.heap.size := by
  obtain ⟨_, _, hh, _⟩ := h
  exact lt_of_block hh
theorem RfAt.err {w : World} {lo M : Nat} {l : List Int} {e : Int} (h : RfAt w lo M l e) : w.cell? ⟨M, 1, none⟩ = some (.int .i64 e) := by
  obtain ⟨a, cap, _, c2, _⟩ := rf_parts h
  exact c2

/-- Under way: so many places have been read, or there was a fault. -/
structure RfS (w wr : World) (lo B N : Nat) (l2 : List Int) (k : Nat) (x : Int) (qs : List Int) (al : Option Addr) (cl : Nat) (lr : List Int) (er : Int) : Prop where
  rd : RfAt wr lo B lr er
  own : OwnsI wr w.heap.size al qs cl
  tg : Tg B w wr
  all : AllI qs
  len : qs.length = k
  ph : (er = 0 ∧ fieldsK 65535 N 0 l2 [] = fieldsK 65535 (N - k) (8 * x) lr qs ∧ 0 ≤ x ∧ x ≤ 8191) ∨ (er ≠ 0 ∧ fieldsK 65535 N 0 l2 [] = ([], [], er))
  ltB : B < w.heap.size
/-- A place more. -/
theorem RfS.next {w wr w2 w4 : World} {lo B N : Nat} {l2 : List Int} {k : Nat} {x : Int} {qs : List Int} {al : Option Addr} {cl : Nat} {lr : List Int} {er : Int} (h : RfS w wr lo B N l2 k x qs al cl lr er)
    {p y : Int} {lr' : List Int} {er' : Int} (hr : RfAt w2 lo B lr' er') (ht : Tg B wr w2) {a4 : Option Addr} {c4 : Nat} (o4 : OwnsI w4 w.heap.size a4 (qs ++ [p]) c4) (b4 : Below w.heap.size (w2.alloc (.cells #[.int .i64 p] 3)) w4) (p0 : 0 ≤ p) (p1 : p ≤ 9223372036854775807)
    (hph : (er' = 0 ∧ fieldsK 65535 N 0 l2 [] = fieldsK 65535 (N - (k + 1)) (8 * y) lr' (qs ++ [p]) ∧ 0 ≤ y ∧ y ≤ 8191) ∨ (er' ≠ 0 ∧ fieldsK 65535 N 0 l2 [] = ([], [], er'))) :
    RfS w w4 lo B N l2 (k + 1) y (qs ++ [p]) a4 c4 lr' er' := by
  have hltB := h.ltB
  have hs1 := h.tg.size
  have hs2 := ht.size
  have ba : Below w2.heap.size w2 (w2.alloc (.cells #[.int .i64 p] 3)) := (Below.refl _ _).alloc (Nat.le_refl _) _
  have b24 : Below w.heap.size w2 w4 := (ba.mono (by omega)).trans b4
  refine ⟨hr.below b24 hltB, o4, (h.tg.trans ht).below2 b24 (Nat.le_refl _), ?_, by simp [h.len], hph, hltB⟩
  intro z hz
  rcases List.mem_append.1 hz with hz | hz
  · exact h.all z hz
  · simp at hz; subst hz; omega

/-- What Read leaves behind. -/
def ReadQ (w : World) (lo B : Nat) (ps rest : List Int) (er : Int) (e : Ending) (w' : World) : Prop :=
  ∃ a' c' l', e = .returned (.slice a' ps.length c') ∧ IsI w' a' ps ∧ (a' = none → ps = [] ∧ c' = 0) ∧ RfAt w' lo B l' er ∧ (er = 0 → l' = rest) ∧ Tg B w w' ∧ (∀ ad, a' = some ad → w.heap.size ≤ ad.block) ∧ ps.length ≤ 8192

set_option maxHeartbeats 2000000 in
theorem roread_none (lo B : Nat) (l : List Int) (er : Int) (w : World) (h : RfAt w lo B l 0) (hu : upS l 0 8192 = (0, l, er)) (hne : er ≠ 0) :
    Calls Tryd.prog 55 #[.pointer (some ⟨B, 0, none⟩)] w (ReadQ w lo B [] [] er) := by
  have HR : Hid (RfAt w lo B l 0) := h
  have HU : Hid (upS l 0 8192 = (0, l, er)) := hu
  have hq : (er != 0) = true := by rw [bne_iff_ne]; exact hne
  clear h hu
  go_enter Tryd.func55, Tryd.ntmps55
  go_wp2_with fail
  refine (rupto_any lo B l 0 8192 _ HR.out).mono ?_
  rw [HU.out]
  rintro r w1 ⟨rfl, r1, g1⟩
  have R1 : Hid (RfAt w1 lo B l er) := r1
  have T1 : Hid (Tg B w w1) := Tg.ofGrown g1
  have c2 := r1.err
  clear r1 g1
  go_wp2
  refine wp_loop_rounds 1 ?_
  rw [rounds_succ]
  go_wp2
  go_ret
  exact ⟨none, 0, l, rfl, IsI.nil _ _, fun _ => ⟨rfl, rfl⟩, R1.out, fun h => absurd h hne, T1.out, (fun ad h => by cases h), by simp⟩

set_option maxHeartbeats 4000000 in
theorem roread_fields (lo B : Nat) (l l2 : List Int) (N : Nat) (qs rest : List Int) (er : Int) (w : World) (h : RfAt w lo B l 0) (hv : upS l 0 8192 = (((N : Nat) : Int), l2, 0)) (hN : N ≤ 8192) (hf : fieldsK 65535 N 0 l2 [] = (qs, rest, er)) :
    Calls Tryd.prog 55 #[.pointer (some ⟨B, 0, none⟩)] w (ReadQ w lo B qs rest er) := by
  have HR : Hid (RfAt w lo B l 0) := h
  have HF : Hid (fieldsK 65535 N 0 l2 [] = (qs, rest, er)) := hf
  have HV : Hid (upS l 0 8192 = (((N : Nat) : Int), l2, 0)) := hv
  have hB := h.lt
  clear h hv hf
  go_enter Tryd.func55, Tryd.ntmps55
  go_wp2_with fail
  refine (rupto_any lo B l 0 8192 _ HR.out).mono ?_
  rw [HV.out]
  rintro r w1 ⟨rfl, r1, g1⟩
  have S0 : Hid (RfS w w1 lo B N l2 0 0 [] none 0 l2 0) := ⟨r1, ownsI_none _ _, Tg.ofGrown g1, fun x hx => by (cases hx), rfl, .inl ⟨rfl, rfl, by omega, by omega⟩, hB⟩
  clear r1 g1
  go_wp2
  go_loopw [4, 5, 6] (fun xv ov iv wr => ∃ (k : Nat) (x : Int) (qs : List Int) (al : Option Addr) (cl : Nat) (lr : List Int) (er : Int), k ≤ N ∧ iv = .int .i64 k ∧ xv = .int .i64 x ∧ ov = .slice al qs.length cl ∧ RfS w wr lo B N l2 k x qs al cl lr er) (fun _ _ iv _ => N - (intOf iv).toNat)
  case atStart => exact ⟨0, 0, [], none, 0, l2, 0, Nat.zero_le _, rfl, rfl, rfl, S0.out⟩
  case round =>
    obtain ⟨k, x, ts, al, cl, lr, er', hk, rfl, rfl, rfl, hS⟩ := hrel
    have HS : Hid (RfS w wr lo B N l2 k x ts al cl lr er') := hS
    have hph := hS.ph
    have HLEN : Hid (ts.length = k) := hS.len
    have hbb := hS.rd.allB
    have c2 := hS.rd.err
    clear hS
    rcases hph with ⟨rfl, hfk, x0, x1⟩ | ⟨hne, hfk⟩
    · by_cases hlt : k < N
      · have hlen' : ts.length ≤ 100000 := by have := HLEN.out; omega
        have HPH : Hid (fieldsK 65535 N 0 l2 [] = fieldsK 65535 (N - k) (8 * x) lr ts) := hfk
        obtain ⟨n, hn⟩ : ∃ n, N - k = n + 1 := ⟨N - k - 1, by omega⟩
        have hn' : N - (k + 1) = n := by omega
        clear hfk
        rcases up_two lr 8192 hbb (by omega) (by omega) with ⟨e', he', u1, u2⟩ | ⟨v, r, v0, v1, hr, u1, u2⟩ | ⟨v, r, v1, hr, u1, u2⟩
        · have hne : e' ≠ 0 := by omega
          have NP : Hid (fieldsK 65535 N 0 l2 [] = ([], [], e')) := by show _ = _; rw [HPH.out, hn, fields_bad u1 hne]
          have HU : Hid (upS lr 0 8192 = (0, lr, e')) := u2
          clear hbb u1 u2 hn hn' he'
          have hq : (e' == 0) = false := by rw [beq_eq_false_iff_ne]; exact hne
          go_wp2_with fail
          refine (rupto_any lo B lr 0 8192 _ HS.out.rd).mono ?_
          rw [HU.out]
          rintro e w2 ⟨rfl, r2, g2⟩
          have R2 : Hid (RfAt w2 lo B lr e') := r2
          have T2 : Hid (Tg B wr w2) := Tg.ofGrown g2
          have d2 := r2.err
          have ltB := HS.out.ltB
          have hz2 : w.heap.size ≤ w2.heap.size := Nat.le_trans HS.out.tg.size T2.out.size
          clear r2 g2
          have O2 : Hid (OwnsI (w2.alloc (.cells #[.int .i64 (8 * x)] 3)) w.heap.size al ts cl) := (HS.out.own.tg T2.out ltB).alloc _
          go_wp2_with (at_builtin; refine wpList_appi rfl _ _ rfl w.heap.size ?y11 al ts cl rfl O2.out (some ⟨w2.heap.size, 0, none⟩) [8 * x] 1 rfl ?y12 ?y13 ?y14 ?y15 ?y16)
          case y11 => simp; omega
          case y12 => exact (one_isI w2 (8 * x) (by omega))
          case y13 => exact (fun h => by cases h)
          case y14 => exact hlen'
          case y15 => simp
          intro a4 c4 w4 o4 b4
          have NX : Hid (RfS w w4 lo B N l2 (k + 1) (x + 1) (ts ++ [8 * x]) a4 c4 lr e') := HS.out.next R2.out T2.out o4 b4 (by omega) (by omega) (.inr ⟨hne, NP.out⟩)
          clear o4 b4
          go_wp2
          go_roundw
          case rel => exact ⟨k + 1, x + 1, ts ++ [8 * x], a4, c4, lr, e', by omega, by go_num, rfl, by rw [List.length_append]; rfl, NX.out⟩
          case measure => simp [intOf]; omega
        · have HU : Hid (upS lr 0 8192 = (v, r, 0)) := u2
          by_cases hvv : v < (65535 - 8 * x) / 8
          · have NP : Hid (fieldsK 65535 N 0 l2 [] = fieldsK 65535 (N - (k + 1)) (8 * (x + v + 1)) r (ts ++ [8 * (x + v)])) := by
              show _ = _
              rw [HPH.out, hn, hn', fields_go u1 hvv, show 8 * x + 8 * v + 8 = 8 * (x + v + 1) from by omega, show 8 * x + 8 * v = 8 * (x + v) from by omega]
            have b1 : x + v ≤ 8190 := by omega
            have b2 : ¬ 65527 < 8 * (x + v) := by omega
            clear hbb u1 u2 hn hn' hr
            go_wp2_with fail
            refine (rupto_any lo B lr 0 8192 _ HS.out.rd).mono ?_
            rw [HU.out]
            rintro e w2 ⟨rfl, r2, g2⟩
            have R2 : Hid (RfAt w2 lo B r 0) := r2
            have T2 : Hid (Tg B wr w2) := Tg.ofGrown g2
            have d2 := r2.err
            have ltB := HS.out.ltB
            have hz2 : w.heap.size ≤ w2.heap.size := Nat.le_trans HS.out.tg.size T2.out.size
            clear r2 g2
            have O2 : Hid (OwnsI (w2.alloc (.cells #[.int .i64 (8 * (x + v))] 3)) w.heap.size al ts cl) := (HS.out.own.tg T2.out ltB).alloc _
            go_wp2_with (at_builtin; refine wpList_appi rfl _ _ rfl w.heap.size ?y21 al ts cl rfl O2.out (some ⟨w2.heap.size, 0, none⟩) [8 * (x + v)] 1 rfl ?y22 ?y23 ?y24 ?y25 ?y26)
            case y21 => simp; omega
            case y22 => exact (one_isI w2 (8 * (x + v)) (by omega))
            case y23 => exact (fun h => by cases h)
            case y24 => exact hlen'
            case y25 => simp
            intro a4 c4 w4 o4 b4
            have NX : Hid (RfS w w4 lo B N l2 (k + 1) (x + v + 1) (ts ++ [8 * (x + v)]) a4 c4 r 0) := HS.out.next R2.out T2.out o4 b4 (by omega) (by omega) (.inl ⟨rfl, NP.out, by omega, by omega⟩)
            clear o4 b4
            go_wp2
            go_roundw
            case rel => exact ⟨k + 1, x + v + 1, ts ++ [8 * (x + v)], a4, c4, r, 0, by omega, by go_num, rfl, by rw [List.length_append]; rfl, NX.out⟩
            case measure => simp [intOf]; omega
          · have NP : Hid (fieldsK 65535 N 0 l2 [] = ([], [], 4)) := by show _ = _; rw [HPH.out, hn, fields_far u1 (by omega)]
            have b2 : 65527 < 8 * (x + v) := by omega
            have b3 : ¬ 8 * (x + v) ≤ 65527 := by omega
            clear hbb u1 u2 hn hn' hr hvv
            go_wp2_with fail
            refine (rupto_any lo B lr 0 8192 _ HS.out.rd).mono ?_
            rw [HU.out]
            rintro e w3 ⟨rfl, r3, g3⟩
            have R3 : Hid (RfAt w3 lo B r 0) := r3
            have T3 : Hid (Tg B wr w3) := Tg.ofGrown g3
            have d3 := r3.err
            clear r3 g3
            go_wp2_with fail
            refine (rfail_any lo B r 0 4 _ R3.out).mono ?_
            rintro e w2 ⟨rfl, r2, g2⟩
            have R2 : Hid (RfAt w2 lo B r 4) := r2
            have T2 : Hid (Tg B wr w2) := T3.out.trans (Tg.ofGrown g2)
            have ltB := HS.out.ltB
            have hz2 : w.heap.size ≤ w2.heap.size := Nat.le_trans HS.out.tg.size T2.out.size
            clear r2 g2 d3
            have O2 : Hid (OwnsI (w2.alloc (.cells #[.int .i64 (8 * (x + v))] 3)) w.heap.size al ts cl) := (HS.out.own.tg T2.out ltB).alloc _
            go_wp2_with (at_builtin; refine wpList_appi rfl _ _ rfl w.heap.size ?y31 al ts cl rfl O2.out (some ⟨w2.heap.size, 0, none⟩) [8 * (x + v)] 1 rfl ?y32 ?y33 ?y34 ?y35 ?y36)
            case y31 => simp; omega
            case y32 => exact (one_isI w2 (8 * (x + v)) (by omega))
            case y33 => exact (fun h => by cases h)
            case y34 => exact hlen'
            case y35 => simp
            intro a4 c4 w4 o4 b4
            have NX : Hid (RfS w w4 lo B N l2 (k + 1) (x + v + 1) (ts ++ [8 * (x + v)]) a4 c4 r 4) := HS.out.next R2.out T2.out o4 b4 (by omega) (by omega) (.inr ⟨by omega, NP.out⟩)
            clear o4 b4
            go_wp2
            go_roundw
            case rel => exact ⟨k + 1, x + v + 1, ts ++ [8 * (x + v)], a4, c4, r, 4, by omega, by go_num, rfl, by rw [List.length_append]; rfl, NX.out⟩
            case measure => simp [intOf]; omega
        · have hne : (4 : Int) ≠ 0 := by omega
          have NP : Hid (fieldsK 65535 N 0 l2 [] = ([], [], 4)) := by show _ = _; rw [HPH.out, hn, fields_far u1 (by omega)]
          have HU : Hid (upS lr 0 8192 = (0, lr, 4)) := u2
          clear hbb u1 u2 hn hn' hr v1
          skip
          go_wp2_with fail
          refine (rupto_any lo B lr 0 8192 _ HS.out.rd).mono ?_
          rw [HU.out]
          rintro e w2 ⟨rfl, r2, g2⟩
          have R2 : Hid (RfAt w2 lo B lr 4) := r2
          have T2 : Hid (Tg B wr w2) := Tg.ofGrown g2
          have d2 := r2.err
          have ltB := HS.out.ltB
          have hz2 : w.heap.size ≤ w2.heap.size := Nat.le_trans HS.out.tg.size T2.out.size
          clear r2 g2
          have O2 : Hid (OwnsI (w2.alloc (.cells #[.int .i64 (8 * x)] 3)) w.heap.size al ts cl) := (HS.out.own.tg T2.out ltB).alloc _
          go_wp2_with (at_builtin; refine wpList_appi rfl _ _ rfl w.heap.size ?y41 al ts cl rfl O2.out (some ⟨w2.heap.size, 0, none⟩) [8 * x] 1 rfl ?y42 ?y43 ?y44 ?y45 ?y46)
          case y41 => simp; omega
          case y42 => exact (one_isI w2 (8 * x) (by omega))
          case y43 => exact (fun h => by cases h)
          case y44 => exact hlen'
          case y45 => simp
          intro a4 c4 w4 o4 b4
          have NX : Hid (RfS w w4 lo B N l2 (k + 1) (x + 1) (ts ++ [8 * x]) a4 c4 lr 4) := HS.out.next R2.out T2.out o4 b4 (by omega) (by omega) (.inr ⟨hne, NP.out⟩)
          clear o4 b4
          go_wp2
          go_roundw
          case rel => exact ⟨k + 1, x + 1, ts ++ [8 * x], a4, c4, lr, 4, by omega, by go_num, rfl, by rw [List.length_append]; rfl, NX.out⟩
          case measure => simp [intOf]; omega
      · obtain rfl : k = N := by omega
        have hE : (ts, lr, (0 : Int)) = (qs, rest, er) := by rw [← HF.out, hfk, Nat.sub_self]; rfl
        simp only [Prod.mk.injEq] at hE
        obtain ⟨rfl, rfl, rfl⟩ := hE
        clear hbb hfk
        go_wp2
        go_ret
        exact ⟨al, cl, lr, rfl, ownsI_isI HS.out.all HS.out.own, HS.out.own.parts.2.2.1, HS.out.rd, fun _ => rfl, HS.out.tg, fun ad h => (HS.out.own.parts.2.2.2 ad h).1, by have := HS.out.len; omega⟩
    · have hE : (([] : List Int), ([] : List Int), er') = (qs, rest, er) := by rw [← HF.out, hfk]
      simp only [Prod.mk.injEq] at hE
      obtain ⟨rfl, rfl, rfl⟩ := hE
      have hq : (er' != 0) = true := by rw [bne_iff_ne]; exact hne
      have hq' : (er' == 0) = false := by rw [beq_eq_false_iff_ne]; exact hne
      clear hbb hfk
      by_cases hlt : k < N
      all_goals
        go_wp2
        go_ret
        exact ⟨none, 0, lr, rfl, IsI.nil _ _, fun _ => ⟨rfl, rfl⟩, HS.out.rd, fun h => absurd h hne, HS.out.tg, (fun ad h => by cases h), by simp⟩

/-- What the document's Read answers. -/
theorem roread_any (lo B : Nat) (l : List Int) (ps rest : List Int) (er : Int) (w : World) (h : RfAt w lo B l 0) (hk : readT l = (ps, rest, er)) :
    Calls Tryd.prog 55 #[.pointer (some ⟨B, 0, none⟩)] w (ReadQ w lo B ps rest er) := by
  rcases up_cases l 8192 h.allB with ⟨v, r, hu, v0, v1, hl⟩ | ⟨e', hu, he⟩
  · rw [readT_go hu] at hk
    exact roread_fields lo B l r v.toNat ps rest er w h (by rw [hu, Int.toNat_of_nonneg v0]) (by omega) hk
  · rw [readT_bad hu (by omega)] at hk
    simp only [Prod.mk.injEq] at hk
    obtain ⟨rfl, rfl, rfl⟩ := hk
    exact roread_none lo B l e' w h hu (by omega)
end Go.Proofs.YtbajchidpffbpaaDoor
