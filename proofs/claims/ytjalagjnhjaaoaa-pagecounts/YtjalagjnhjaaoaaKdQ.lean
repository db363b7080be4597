/- A kind is read by the document: what its Read answers, and what becomes of its reader. -/
import Derived.Test.YtjalagjnhjaaoaaKdO
import Derived.Test.YtjalagjnhjaaoaaKdD
namespace Go.Proofs.Ytjalagjnhjaaoaa
open Go.RowKit
set_option linter.unusedVariables false
set_option maxRecDepth 4000

theorem RfAt.tg {w w' : World} {lo M g : Nat} {l : List Int} {e : Int} (h : RfAt w lo M l e) (t : Tg g w w') (hg : M < g) : RfAt w' lo M l e := by
  obtain ⟨a, cap, hh, h1, h2, h3, h4⟩ := h
  have hlt := lt_of_block hh
  refine ⟨a, cap, (t.block M hlt (by omega)).trans hh, h1, h2, h3, ?_⟩
  rcases h4 with h4 | ⟨b, off, e1, e0, e2, e3⟩
  · exact .inl h4
  · exact .inr ⟨b, off, e1, e0, e2, fun i hi => t.cell (e3 i hi) (by omega)⟩
theorem RfAt.below {w w' : World} {lo M base : Nat} {l : List Int} {e : Int} (h : RfAt w lo M l e) (t : Below base w w') (hg : M < base) : RfAt w' lo M l e := by
  obtain ⟨a, cap, hh, h1, h2, h3, h4⟩ := h
  refine ⟨a, cap, (t.block M hg).trans hh, h1, h2, h3, ?_⟩
  rcases h4 with h4 | ⟨b, off, e1, e0, e2, e3⟩
  · exact .inl h4
  · exact .inr ⟨b, off, e1, e0, e2, fun i hi => by rw [t.cell (p := ⟨b, off + i, none⟩) (by show b < _; omega)]; exact e3 i hi⟩
theorem RfAt.allB {w : World} {lo M : Nat} {l : List Int} {e : Int} (h : RfAt w lo M l e) : AllB l := by
  obtain ⟨_, _, _, _, _, h3, _⟩ := h
  exact h3
theorem RfAt.lt {w : World} {lo M : Nat} {l : List Int} {e : Int} (h : RfAt w lo M l e) : M < w.heap.size := by
  obtain ⟨_, _, hh, _⟩ := h
  exact lt_of_block hh
theorem RfAt.err {w : World} {lo M : Nat} {l : List Int} {e : Int} (h : RfAt w lo M l e) : w.cell? ⟨M, 1, none⟩ = some (.int .i64 e) := by
  obtain ⟨a, cap, _, c2, _⟩ := rf_parts h
  exact c2

/-- Under way: so many fields have been read, or there was a fault. -/
structure RfSt (w wr : World) (lo B K : Nat) (s : Int) (N : Nat) (l2 : List Int) (k : Nat) (f : Int) (qs : List Int) (al : Option Addr) (cl : Nat) (lr : List Int) (er : Int) : Prop where
  rd : RfAt wr lo B lr er
  box : wr.heap[K]? = some (.cells #[.int .i64 s, .slice al qs.length cl] 54 (0, 0))
  res : wr.heap[w.heap.size]? = some (.cells #[.int .i64 0, .slice none 0 0] 54 (0, 0))
  own : OwnsI wr (K + 1) al qs cl
  tg : Tg B w wr
  all : AllI qs
  len : qs.length = k
  ph : (er = 0 ∧ fieldsK s N 0 l2 [] = fieldsK s (N - k) f lr qs ∧ 0 ≤ f ∧ f ≤ s) ∨ (er ≠ 0 ∧ fieldsK s N 0 l2 [] = ([], [], er))
  lt : w.heap.size < K
  ltB : B < w.heap.size

/-- A field more: the list has grown, and lies in the box. -/
theorem RfSt.next {w wr w2 w4 : World} {lo B K : Nat} {s : Int} {N : Nat} {l2 : List Int} {k : Nat} {f : Int} {qs : List Int} {al : Option Addr} {cl : Nat} {lr : List Int} {er : Int} (h : RfSt w wr lo B K s N l2 k f qs al cl lr er)
    {p : Int} {lr' : List Int} {er' : Int} (hr : RfAt w2 lo B lr' er') (ht : Tg B wr w2) {a4 : Option Addr} {c4 : Nat} (o4 : OwnsI w4 (K + 1) a4 (qs ++ [p]) c4) (b4 : Below (K + 1) (w2.alloc (.cells #[.int .i64 p] 3)) w4) (hp : -9223372036854775808 ≤ p ∧ p ≤ 9223372036854775807)
    (hph : (er' = 0 ∧ fieldsK s N 0 l2 [] = fieldsK s (N - (k + 1)) (p + 8) lr' (qs ++ [p]) ∧ 0 ≤ p + 8 ∧ p + 8 ≤ s) ∨ (er' ≠ 0 ∧ fieldsK s N 0 l2 [] = ([], [], er'))) :
    RfSt w (w4.setCell ⟨K, 1, none⟩ (.slice a4 (qs ++ [p]).length c4)) lo B K s N l2 (k + 1) (p + 8) (qs ++ [p]) a4 c4 lr' er' := by
  have hK : K < wr.heap.size := (Array.getElem?_eq_some_iff.1 h.box).1
  have hlt := h.lt
  have hltB := h.ltB
  have hs2 := ht.size
  have ba : Below w2.heap.size w2 (w2.alloc (.cells #[.int .i64 p] 3)) := (Below.refl _ _).alloc (Nat.le_refl _) _
  have b24 : Below (K + 1) w2 w4 := (ba.mono (by omega)).trans b4
  have hbox : w4.heap[K]? = some (.cells #[.int .i64 s, .slice al qs.length cl] 54 (0, 0)) := by rw [b24.block K (by omega), ht.block K hK (by omega)]; exact h.box
  have hres : w4.heap[w.heap.size]? = some (.cells #[.int .i64 0, .slice none 0 0] 54 (0, 0)) := by rw [b24.block _ (by omega), ht.block _ (by omega) (by omega)]; exact h.res
  have on := Only.set K 1 (.slice a4 (qs ++ [p]).length c4) w4
  have ts := Tg.ofOnly on
  refine ⟨(hr.below b24 (by omega)).tg ts (by omega), ?_, ?_, ?_, ?_, ?_, by simp [h.len], hph, hlt, hltB⟩
  · rw [heap_setCell_same w4 K 1 _ _ _ hbox]; rfl
  · rw [on.block _ (by omega)]; exact hres
  · exact o4.tg ts (by omega)
  · have t1 := h.tg.trans ht
    refine ⟨?_, ?_, ?_, ?_, ?_⟩
    · exact ts.os.trans (b24.os.trans t1.os)
    · exact ts.tape.trans (b24.tape.trans t1.tape)
    · exact ts.output.trans (b24.output.trans t1.output)
    · have := t1.size; have := b24.size; have := ts.size; omega
    · intro i hi hn
      have := t1.size
      rw [on.block i (by omega), b24.block i (by omega)]
      exact t1.block i hi hn
  · intro x hx
    rcases List.mem_append.1 hx with hx | hx
    · exact h.all x hx
    · simp at hx; subst hx; exact hp

/-- What Read leaves behind. -/
def ReadPostF (w : World) (lo B : Nat) (s : Int) (ps rest : List Int) (er : Int) (e : Ending) (w' : World) : Prop :=
  ∃ a' c' l', e = .returned (.agg #[.int .i64 s, .slice a' ps.length c']) ∧ IsI w' a' ps ∧ (a' = none → ps = [] ∧ c' = 0) ∧ RfAt w' lo B l' er ∧ (er = 0 → l' = rest) ∧ Tg B w w'

set_option maxHeartbeats 2000000 in
/-- The size is none, or a fault. -/
theorem rread_none (lo B : Nat) (l l1 : List Int) (e1 er : Int) (w : World) (h : RfAt w lo B l 0) (hu : upS l 0 4096 = (0, l1, e1)) (he : failV e1 4 = er) (hne : er ≠ 0) :
    Calls Try.prog 45 #[.pointer (some ⟨B, 0, none⟩)] w (ReadPostF w lo B 0 [] [] er) := by
  have HR : Hid (RfAt (w.alloc (.cells #[.int .i64 0, .slice none 0 0] 54)) lo B l 0) := rf_keep h ((Below.refl _ _).alloc (Nat.le_refl _) _)
  have HU : Hid (upS l 0 4096 = (0, l1, e1)) := hu
  have HE : Hid (failV e1 4 = er) := he
  have hB := h.lt
  have hq : (er != 0) = true := by rw [bne_iff_ne]; exact hne
  have HV : Hid (upS l1 er 16 = (0, l1, er)) := by show _ = _; rw [upS, if_neg hne]
  clear h hu he
  go_enter Try.func45, Try.ntmps45
  go_wp2_with fail
  refine (rupto_any lo B l 0 4096 _ HR.out).mono ?_
  rw [HU.out]
  rintro r w1 ⟨rfl, r1, g1⟩
  obtain ⟨x1, x2, x3, x4⟩ := boxes 0 hB (Tg.ofGrown g1)
  obtain ⟨D, hD⟩ : ∃ D, w1.alloc (.cells #[.int .i64 0, .slice none 0 0] 54) = D := ⟨_, rfl⟩
  have R1 : Hid (RfAt D lo B l1 e1) := by show RfAt _ _ _ _ _; rw [← hD]; exact rf_keep r1 ((Below.refl _ _).alloc (Nat.le_refl _) _)
  rw [hD] at x1 x2 x3
  have HD : Hid _ := hD
  clear hD
  have X2 : Hid _ := x2
  have X3 : Hid (Tg B w D) := x3
  clear r1 g1 x1 x2 x3
  go_wp2_with fail
  rw [HD.out]
  refine (rfail_any lo B l1 e1 4 _ R1.out).mono ?_
  rw [HE.out]
  rintro r w2 ⟨rfl, r2, g2⟩
  have R2 : Hid (RfAt w2 lo B l1 er) := r2
  have T2 : Hid (Tg B D w2) := Tg.ofGrown g2
  clear r2 g2
  go_wp2_with fail
  refine (rupto_any lo B l1 er 16 _ R2.out).mono ?_
  rw [HV.out]
  rintro r w3 ⟨rfl, r3, g3⟩
  have R3 : Hid (RfAt w3 lo B l1 er) := r3
  have T3 : Hid (Tg B D w3) := T2.out.trans (Tg.ofGrown g3)
  clear r3 g3
  have hz : D.heap.size ≤ w3.heap.size := T3.out.size
  have x5 : w3.heap[w.heap.size]? = some (.cells #[.int .i64 0, .slice none 0 0] 54 (0, 0)) := by rw [T3.out.block _ (Array.getElem?_eq_some_iff.1 X2.out).1 (by omega)]; exact X2.out
  obtain ⟨m0, m1, mz0, mz1⟩ := cells_box x5
  have e0 := laid0 (k := 0) (v := .slice none 0 0) m0
  have e1' := laid1 (k := 0) (v := .slice none 0 0) m1
  have F : Hid (RfAt (laid w3 w.heap.size 0 (.slice none 0 0)) lo B l1 er ∧ Tg B w (laid w3 w.heap.size 0 (.slice none 0 0))) := ⟨R3.out.tg laid_tg (by omega), (X3.out.trans T3.out).laid (Nat.le_refl _)⟩
  unfold laid at e0 e1'
  clear x5
  have er3 := R3.out.err
  go_wp2
  refine wp_loop_rounds 1 ?_
  rw [rounds_succ]
  go_wp2
  refine bodyPost_ret (v := .agg #[.int .i64 0, .slice none 0 0]) (by simp [results, Try.results45, go_sem, e0, e1']) rfl ⟨none, 0, l1, rfl, IsI.nil _ _, fun _ => ⟨rfl, rfl⟩, F.out.1, fun h => absurd h hne, F.out.2⟩

set_option maxHeartbeats 2000000 in
/-- How many fields there are is a fault. -/
theorem rread_count (lo B : Nat) (l l1 : List Int) (s er : Int) (w : World) (h : RfAt w lo B l 0) (hu : upS l 0 4096 = (s, l1, 0)) (s0 : 1 ≤ s) (s1 : s ≤ 4096) (hv : upS l1 0 16 = (0, l1, er)) (hne : er ≠ 0) :
    Calls Try.prog 45 #[.pointer (some ⟨B, 0, none⟩)] w (ReadPostF w lo B 0 [] [] er) := by
  have HR : Hid (RfAt (w.alloc (.cells #[.int .i64 0, .slice none 0 0] 54)) lo B l 0) := rf_keep h ((Below.refl _ _).alloc (Nat.le_refl _) _)
  have HU : Hid (upS l 0 4096 = (s, l1, 0)) := hu
  have hB := h.lt
  have hq : (er != 0) = true := by rw [bne_iff_ne]; exact hne
  have HV : Hid (upS l1 0 16 = (0, l1, er)) := hv
  have hs : ¬ s = 0 := by omega
  have hs' : (s == 0) = false := by rw [beq_eq_false_iff_ne]; exact hs
  clear h hu hv
  go_enter Try.func45, Try.ntmps45
  go_wp2_with fail
  refine (rupto_any lo B l 0 4096 _ HR.out).mono ?_
  rw [HU.out]
  rintro r w1 ⟨rfl, r1, g1⟩
  obtain ⟨x1, x2, x3, x4⟩ := boxes s hB (Tg.ofGrown g1)
  obtain ⟨D, hD⟩ : ∃ D, w1.alloc (.cells #[.int .i64 s, .slice none 0 0] 54) = D := ⟨_, rfl⟩
  have R1 : Hid (RfAt D lo B l1 0) := by show RfAt _ _ _ _ _; rw [← hD]; exact rf_keep r1 ((Below.refl _ _).alloc (Nat.le_refl _) _)
  rw [hD] at x1 x2 x3
  have HD : Hid _ := hD
  clear hD
  have X2 : Hid _ := x2
  have X3 : Hid (Tg B w D) := x3
  clear r1 g1 x1 x2 x3
  go_wp2_with fail
  rw [HD.out]
  refine (rupto_any lo B l1 0 16 _ R1.out).mono ?_
  rw [HV.out]
  rintro r w3 ⟨rfl, r3, g3⟩
  have R3 : Hid (RfAt w3 lo B l1 er) := r3
  have T3 : Hid (Tg B D w3) := Tg.ofGrown g3
  clear r3 g3
  have x5 : w3.heap[w.heap.size]? = some (.cells #[.int .i64 0, .slice none 0 0] 54 (0, 0)) := by rw [T3.out.block _ (Array.getElem?_eq_some_iff.1 X2.out).1 (by omega)]; exact X2.out
  obtain ⟨m0, m1, mz0, mz1⟩ := cells_box x5
  have e0 := laid0 (k := 0) (v := .slice none 0 0) m0
  have e1' := laid1 (k := 0) (v := .slice none 0 0) m1
  have F : Hid (RfAt (laid w3 w.heap.size 0 (.slice none 0 0)) lo B l1 er ∧ Tg B w (laid w3 w.heap.size 0 (.slice none 0 0))) := ⟨R3.out.tg laid_tg (by omega), (X3.out.trans T3.out).laid (Nat.le_refl _)⟩
  unfold laid at e0 e1'
  clear x5
  have er3 := R3.out.err
  go_wp2
  refine wp_loop_rounds 1 ?_
  rw [rounds_succ]
  go_wp2
  refine bodyPost_ret (v := .agg #[.int .i64 0, .slice none 0 0]) (by simp [results, Try.results45, go_sem, e0, e1']) rfl ⟨none, 0, l1, rfl, IsI.nil _ _, fun _ => ⟨rfl, rfl⟩, F.out.1, fun h => absurd h hne, F.out.2⟩

set_option maxHeartbeats 4000000 in
/-- The fields are read one behind the other. -/
theorem rread_fields (lo B : Nat) (l l1 l2 : List Int) (s : Int) (N : Nat) (qs rest : List Int) (er : Int) (w : World) (h : RfAt w lo B l 0) (hu : upS l 0 4096 = (s, l1, 0)) (s0 : 1 ≤ s) (s1 : s ≤ 4096) (hv : upS l1 0 16 = (((N : Nat) : Int), l2, 0)) (hN : N ≤ 16) (hf : fieldsK s N 0 l2 [] = (qs, rest, er)) (S : Int) (PS RS : List Int) (hS0 : er = 0 → s = S ∧ qs = PS ∧ rest = RS) (hS1 : er ≠ 0 → 0 = S ∧ [] = PS ∧ [] = RS) :
    Calls Try.prog 45 #[.pointer (some ⟨B, 0, none⟩)] w (ReadPostF w lo B S PS RS er) := by
  have HS0 : Hid (er = 0 → s = S ∧ qs = PS ∧ rest = RS) := hS0
  have HS1 : Hid (er ≠ 0 → 0 = S ∧ [] = PS ∧ [] = RS) := hS1
  clear hS0 hS1
  have HR : Hid (RfAt (w.alloc (.cells #[.int .i64 0, .slice none 0 0] 54)) lo B l 0) := rf_keep h ((Below.refl _ _).alloc (Nat.le_refl _) _)
  have HU : Hid (upS l 0 4096 = (s, l1, 0)) := hu
  have HFK : Hid (fieldsK s N 0 l2 [] = (qs, rest, er)) := hf
  have hB := h.lt
  have HV : Hid (upS l1 0 16 = (((N : Nat) : Int), l2, 0)) := hv
  have hs : ¬ s = 0 := by omega
  have hs' : (s == 0) = false := by rw [beq_eq_false_iff_ne]; exact hs
  clear h hu hv hf
  go_enter Try.func45, Try.ntmps45
  go_wp2_with fail
  refine (rupto_any lo B l 0 4096 _ HR.out).mono ?_
  rw [HU.out]
  rintro r w1 ⟨rfl, r1, g1⟩
  obtain ⟨x1, x2, x3, x4⟩ := boxes s hB (Tg.ofGrown g1)
  obtain ⟨D, hD⟩ : ∃ D, w1.alloc (.cells #[.int .i64 s, .slice none 0 0] 54) = D := ⟨_, rfl⟩
  have R1 : Hid (RfAt D lo B l1 0) := by show RfAt _ _ _ _ _; rw [← hD]; exact rf_keep r1 ((Below.refl _ _).alloc (Nat.le_refl _) _)
  rw [hD] at x1 x2 x3
  have HD : Hid _ := hD
  clear hD
  have X1 : Hid _ := x1
  have X2 : Hid _ := x2
  have X3 : Hid (Tg B w D) := x3
  clear r1 g1 x1 x2 x3
  go_wp2_with fail
  rw [HD.out]
  refine (rupto_any lo B l1 0 16 _ R1.out).mono ?_
  rw [HV.out]
  rintro r w3 ⟨rfl, r3, g3⟩
  have T3 : Hid (Tg B D w3) := Tg.ofGrown g3
  have S0 : Hid (RfSt w w3 lo B w1.heap.size s N l2 0 (8 * 0) [] none 0 l2 0) :=
    ⟨r3, by rw [T3.out.block _ (Array.getElem?_eq_some_iff.1 X1.out).1 (by omega)]; exact X1.out, by rw [T3.out.block _ (Array.getElem?_eq_some_iff.1 X2.out).1 (by omega)]; exact X2.out, ownsI_none _ _, X3.out.trans T3.out, fun x hx => by (cases hx), rfl, .inl ⟨rfl, rfl, by omega, by omega⟩, x4, hB⟩
  obtain ⟨K, hK⟩ : ∃ K, w1.heap.size = K := ⟨_, rfl⟩
  rw [hK] at S0 x4
  clear r3 g3 HD X1 X2 X3 T3 R1
  go_wp2
  clear hK
  go_loopw [5, 6] (fun mv iv wr => ∃ (k : Nat) (m : Int) (qs : List Int) (al : Option Addr) (cl : Nat) (lr : List Int) (er : Int), k ≤ N ∧ iv = .int .i64 k ∧ mv = .int .i64 m ∧ RfSt w wr lo B K s N l2 k (8 * m) qs al cl lr er) (fun _ iv _ => N - (intOf iv).toNat)
  case atStart => exact ⟨0, 0, [], none, 0, l2, 0, Nat.zero_le _, rfl, rfl, S0.out⟩
  case round =>
    obtain ⟨k, m, ts, al, cl, lr, er', hk, rfl, rfl, hS⟩ := hrel
    have HS : Hid (RfSt w wr lo B K s N l2 k (8 * m) ts al cl lr er') := hS
    obtain ⟨k0, k1, kz0, kz1⟩ := cells_box hS.box
    have hph := hS.ph
    have HLEN : Hid (ts.length = k) := hS.len
    have hKr : K < wr.heap.size := (Array.getElem?_eq_some_iff.1 hS.box).1
    have hbb := hS.rd.allB
    have erw := hS.rd.err
    have ltB := hS.ltB
    have lt := hS.lt
    clear hS
    by_cases hgo : k < N ∧ er' = 0
    · obtain ⟨hlt, rfl⟩ := hgo
      have hlen' : ts.length ≤ 100000 := by have := HLEN.out; omega
      obtain ⟨n, hn⟩ : ∃ n, N - k = n + 1 := ⟨N - k - 1, by omega⟩
      have hn' : N - (k + 1) = n := by omega
      rcases hph with ⟨_, hfk, m0, m1⟩ | ⟨hne, _⟩
      rotate_left
      · exact absurd rfl hne
      rw [hn] at hfk
      have HSTEP : Hid (∀ (w2 w4 : World) (p : Int) (lr' : List Int) (er2 : Int) (a4 : Option Addr) (c4 : Nat), RfAt w2 lo B lr' er2 → Tg B wr w2 → OwnsI w4 (K + 1) a4 (ts ++ [8 * p]) c4 → Below (K + 1) (w2.alloc (.cells #[.int .i64 (8 * p)] 3)) w4 → 0 ≤ p → p ≤ 2000 →
          ((er2 = 0 ∧ fieldsK s N 0 l2 [] = fieldsK s n (8 * p + 8) lr' (ts ++ [8 * p]) ∧ 8 * p + 8 ≤ s) ∨ (er2 ≠ 0 ∧ fieldsK s N 0 l2 [] = ([], [], er2))) →
          RfSt w (w4.setCell ⟨K, 1, none⟩ (.slice a4 (ts ++ [8 * p]).length c4)) lo B K s N l2 (k + 1) (8 * (p + 1)) (ts ++ [8 * p]) a4 c4 lr' er2) := by
        intro w2 w4 p lr' er2 a4 c4 r2 t2 o4 b4 p0 p1 ph
        rw [show 8 * (p + 1) = 8 * p + 8 from by omega]
        refine HS.out.next r2 t2 o4 b4 (by omega) ?_
        rw [hn']
        rcases ph with ⟨h1, h2, h3⟩ | ⟨h1, h2⟩
        · exact .inl ⟨h1, h2, by omega, h3⟩
        · exact .inr ⟨h1, h2⟩
      have hk0 : (k : Int) < (N : Int) := by omega
      rcases up_two lr 512 hbb (by omega) (by omega) with ⟨e', he', hu, hu'⟩ | ⟨v, r, v0, v1, hr, hu, hu'⟩ | ⟨v, r, v1, hr, hu, hu'⟩
      · have HU' : Hid (upS lr 0 512 = (0, lr, e')) := hu'
        have PH : Hid (fieldsK s N 0 l2 [] = ([], [], e')) := by show _ = _; rw [hfk, fields_bad hu (by omega)]
        have hq : (e' == 0) = false := by rw [beq_eq_false_iff_ne]; omega
        have hne' : e' ≠ 0 := by omega
        clear hfk hbb hu hu' he'
        go_wp2_with fail
        refine (rupto_any lo B lr 0 512 _ HS.out.rd).mono ?_
        rw [HU'.out]
        rintro e w2 ⟨rfl, r2, g2⟩
        have R2 : Hid (RfAt w2 lo B lr e') := r2
        have T2 : Hid (Tg B wr w2) := Tg.ofGrown g2
        have c2 := r2.err
        clear r2 g2
        have hz2 : K < w2.heap.size := Nat.lt_of_lt_of_le hKr T2.out.size
        have box2 : w2.heap[K]? = some (.cells #[.int .i64 s, .slice al ts.length cl] 54 (0, 0)) := by rw [T2.out.block K hKr (by omega)]; exact HS.out.box
        obtain ⟨n0, n1, nz0, nz1⟩ := cells_box box2
        have O2 : Hid (OwnsI (w2.alloc (.cells #[.int .i64 (8 * m)] 3)) (K + 1) al ts cl) := (HS.out.own.tg T2.out (by omega)).alloc _
        have BX : Hid (w2.heap[K]? = some (.cells #[.int .i64 s, .slice al ts.length cl] 54 (0, 0))) := box2
        clear box2
        go_wp2_with (at_builtin; refine wpList_appi rfl _ _ rfl (K + 1) ?xa1 al ts cl rfl O2.out (some ⟨w2.heap.size, 0, none⟩) [8 * m] 1 rfl ?xa2 ?xa3 ?xa4 ?xa5 ?xa6)
        case xa1 => simp; omega
        case xa2 => exact (one_isI w2 _ (by omega))
        case xa3 => exact (fun h => by cases h)
        case xa4 => exact hlen'
        case xa5 => simp
        intro a4 c4 w4 o4 b4
        have NX : Hid _ := HSTEP.out _ _ (m) _ _ _ _ R2.out T2.out o4 b4 (by omega) (by omega) (.inr ⟨hne', PH.out⟩)
        have box4 : w4.heap[K]? = some (.cells #[.int .i64 s, .slice al ts.length cl] 54 (0, 0)) := (by rw [b4.block K (by omega), ((Below.refl _ w2).alloc (Nat.le_refl _) (.cells #[.int .i64 (8 * m)] 3)).block K hz2]; exact BX.out)
        obtain ⟨o0, o1, oz0, oz1⟩ := cells_box box4
        clear o4 b4 box4
        go_wp2
        go_roundw
        case rel =>
          refine ⟨k + 1, m + 1, ts ++ [8 * m], a4, c4, lr, e', by omega, by go_num, rfl, ?_⟩
          have := NX.out
          simpa using this
        case measure => simp [intOf]; omega
      · by_cases hfar : s < 8 * (m + v) + 8
        · have HU' : Hid (upS lr 0 512 = (v, r, 0)) := hu'
          have PH : Hid (fieldsK s N 0 l2 [] = ([], [], 4)) := by show _ = _; rw [hfk, fields_far hu (by omega)]
          clear hfk hbb hu hu' hr
          go_wp2_with fail
          refine (rupto_any lo B lr 0 512 _ HS.out.rd).mono ?_
          rw [HU'.out]
          rintro e w1 ⟨rfl, r1, g1⟩
          have R1 : Hid (RfAt w1 lo B r 0) := r1
          have T1 : Hid (Tg B wr w1) := Tg.ofGrown g1
          have c1 := r1.err
          have n1' : w1.cell? ⟨K, 0, none⟩ = some (.int .i64 s) := T1.out.cell k0 (by omega)
          clear r1 g1
          go_wp2_with fail
          refine (rfail_any lo B r 0 4 _ R1.out).mono ?_
          rintro e w2 ⟨rfl, r2, g2⟩
          have R2 : Hid (RfAt w2 lo B r 4) := r2
          have T2 : Hid (Tg B wr w2) := T1.out.trans (Tg.ofGrown g2)
          clear r2 g2
          have hz2 : K < w2.heap.size := Nat.lt_of_lt_of_le hKr T2.out.size
          have box2 : w2.heap[K]? = some (.cells #[.int .i64 s, .slice al ts.length cl] 54 (0, 0)) := by rw [T2.out.block K hKr (by omega)]; exact HS.out.box
          obtain ⟨n0, n1, nz0, nz1⟩ := cells_box box2
          have O2 : Hid (OwnsI (w2.alloc (.cells #[.int .i64 (8 * (m + v))] 3)) (K + 1) al ts cl) := (HS.out.own.tg T2.out (by omega)).alloc _
          have BX : Hid (w2.heap[K]? = some (.cells #[.int .i64 s, .slice al ts.length cl] 54 (0, 0))) := box2
          clear box2
          go_wp2_with (at_builtin; refine wpList_appi rfl _ _ rfl (K + 1) ?xb1 al ts cl rfl O2.out (some ⟨w2.heap.size, 0, none⟩) [8 * (m + v)] 1 rfl ?xb2 ?xb3 ?xb4 ?xb5 ?xb6)
          case xb1 => simp; omega
          case xb2 => exact (one_isI w2 _ (by omega))
          case xb3 => exact (fun h => by cases h)
          case xb4 => exact hlen'
          case xb5 => simp
          intro a4 c4 w4 o4 b4
          have NX : Hid _ := HSTEP.out _ _ (m + v) _ _ _ _ R2.out T2.out o4 b4 (by omega) (by omega) (.inr ⟨by omega, PH.out⟩)
          have box4 : w4.heap[K]? = some (.cells #[.int .i64 s, .slice al ts.length cl] 54 (0, 0)) := (by rw [b4.block K (by omega), ((Below.refl _ w2).alloc (Nat.le_refl _) (.cells #[.int .i64 (8 * (m + v))] 3)).block K hz2]; exact BX.out)
          obtain ⟨o0, o1, oz0, oz1⟩ := cells_box box4
          clear o4 b4 box4
          go_wp2
          go_roundw
          case rel =>
            refine ⟨k + 1, (m + v) + 1, ts ++ [8 * (m + v)], a4, c4, r, 4, by omega, by go_num, rfl, ?_⟩
            have := NX.out
            simpa using this
          case measure => simp [intOf]; omega
        · have HU' : Hid (upS lr 0 512 = (v, r, 0)) := hu'
          have PH : Hid (fieldsK s N 0 l2 [] = fieldsK s n (8 * (m + v) + 8) r (ts ++ [8 * (m + v)])) := by show _ = _; rw [hfk, fields_go hu (by omega), Int.mul_add]
          clear hfk hbb hu hu' hr
          go_wp2_with fail
          refine (rupto_any lo B lr 0 512 _ HS.out.rd).mono ?_
          rw [HU'.out]
          rintro e w2 ⟨rfl, r2, g2⟩
          have R2 : Hid (RfAt w2 lo B r 0) := r2
          have T2 : Hid (Tg B wr w2) := Tg.ofGrown g2
          have c2 := r2.err
          clear r2 g2
          have hz2 : K < w2.heap.size := Nat.lt_of_lt_of_le hKr T2.out.size
          have box2 : w2.heap[K]? = some (.cells #[.int .i64 s, .slice al ts.length cl] 54 (0, 0)) := by rw [T2.out.block K hKr (by omega)]; exact HS.out.box
          obtain ⟨n0, n1, nz0, nz1⟩ := cells_box box2
          have O2 : Hid (OwnsI (w2.alloc (.cells #[.int .i64 (8 * (m + v))] 3)) (K + 1) al ts cl) := (HS.out.own.tg T2.out (by omega)).alloc _
          have BX : Hid (w2.heap[K]? = some (.cells #[.int .i64 s, .slice al ts.length cl] 54 (0, 0))) := box2
          clear box2
          go_wp2_with (at_builtin; refine wpList_appi rfl _ _ rfl (K + 1) ?xc1 al ts cl rfl O2.out (some ⟨w2.heap.size, 0, none⟩) [8 * (m + v)] 1 rfl ?xc2 ?xc3 ?xc4 ?xc5 ?xc6)
          case xc1 => simp; omega
          case xc2 => exact (one_isI w2 _ (by omega))
          case xc3 => exact (fun h => by cases h)
          case xc4 => exact hlen'
          case xc5 => simp
          intro a4 c4 w4 o4 b4
          have NX : Hid _ := HSTEP.out _ _ (m + v) _ _ _ _ R2.out T2.out o4 b4 (by omega) (by omega) (.inl ⟨rfl, PH.out, by omega⟩)
          have box4 : w4.heap[K]? = some (.cells #[.int .i64 s, .slice al ts.length cl] 54 (0, 0)) := (by rw [b4.block K (by omega), ((Below.refl _ w2).alloc (Nat.le_refl _) (.cells #[.int .i64 (8 * (m + v))] 3)).block K hz2]; exact BX.out)
          obtain ⟨o0, o1, oz0, oz1⟩ := cells_box box4
          clear o4 b4 box4
          go_wp2
          go_roundw
          case rel =>
            refine ⟨k + 1, (m + v) + 1, ts ++ [8 * (m + v)], a4, c4, r, 0, by omega, by go_num, rfl, ?_⟩
            have := NX.out
            simpa using this
          case measure => simp [intOf]; omega
      · have HU' : Hid (upS lr 0 512 = (0, lr, 4)) := hu'
        have PH : Hid (fieldsK s N 0 l2 [] = ([], [], 4)) := by show _ = _; rw [hfk, fields_far hu (by omega)]
        clear hfk hbb hu hu' hr
        go_wp2_with fail
        refine (rupto_any lo B lr 0 512 _ HS.out.rd).mono ?_
        rw [HU'.out]
        rintro e w2 ⟨rfl, r2, g2⟩
        have R2 : Hid (RfAt w2 lo B lr 4) := r2
        have T2 : Hid (Tg B wr w2) := Tg.ofGrown g2
        have c2 := r2.err
        clear r2 g2
        have hz2 : K < w2.heap.size := Nat.lt_of_lt_of_le hKr T2.out.size
        have box2 : w2.heap[K]? = some (.cells #[.int .i64 s, .slice al ts.length cl] 54 (0, 0)) := by rw [T2.out.block K hKr (by omega)]; exact HS.out.box
        obtain ⟨n0, n1, nz0, nz1⟩ := cells_box box2
        have O2 : Hid (OwnsI (w2.alloc (.cells #[.int .i64 (8 * m)] 3)) (K + 1) al ts cl) := (HS.out.own.tg T2.out (by omega)).alloc _
        have BX : Hid (w2.heap[K]? = some (.cells #[.int .i64 s, .slice al ts.length cl] 54 (0, 0))) := box2
        clear box2
        go_wp2_with (at_builtin; refine wpList_appi rfl _ _ rfl (K + 1) ?xd1 al ts cl rfl O2.out (some ⟨w2.heap.size, 0, none⟩) [8 * m] 1 rfl ?xd2 ?xd3 ?xd4 ?xd5 ?xd6)
        case xd1 => simp; omega
        case xd2 => exact (one_isI w2 _ (by omega))
        case xd3 => exact (fun h => by cases h)
        case xd4 => exact hlen'
        case xd5 => simp
        intro a4 c4 w4 o4 b4
        have NX : Hid _ := HSTEP.out _ _ (m) _ _ _ _ R2.out T2.out o4 b4 (by omega) (by omega) (.inr ⟨by omega, PH.out⟩)
        have box4 : w4.heap[K]? = some (.cells #[.int .i64 s, .slice al ts.length cl] 54 (0, 0)) := (by rw [b4.block K (by omega), ((Below.refl _ w2).alloc (Nat.le_refl _) (.cells #[.int .i64 (8 * m)] 3)).block K hz2]; exact BX.out)
        obtain ⟨o0, o1, oz0, oz1⟩ := cells_box box4
        clear o4 b4 box4
        go_wp2
        go_roundw
        case rel =>
          refine ⟨k + 1, m + 1, ts ++ [8 * m], a4, c4, lr, 4, by omega, by go_num, rfl, ?_⟩
          have := NX.out
          simpa using this
        case measure => simp [intOf]; omega
    · obtain ⟨m0, m1, mz0, mz1⟩ := cells_box HS.out.res
      have hcs : (er' = 0 ∧ k = N ∧ fieldsK s N 0 l2 [] = fieldsK s (N - k) (8 * m) lr ts) ∨ (er' ≠ 0 ∧ fieldsK s N 0 l2 [] = ([], [], er')) := by
        rcases hph with ⟨h1, h2, _, _⟩ | ⟨h1, h2⟩
        · exact .inl ⟨h1, by omega, h2⟩
        · exact .inr ⟨h1, h2⟩
      clear hph hgo
      rcases hcs with ⟨rfl, rfl, hfk⟩ | ⟨hne, hfk⟩
      · have hE : (ts, lr, (0 : Int)) = (qs, rest, er) := by rw [← HFK.out, hfk, Nat.sub_self]; rfl
        simp only [Prod.mk.injEq] at hE
        obtain ⟨rfl, rfl, rfl⟩ := hE
        obtain ⟨rfl, rfl, rfl⟩ := HS0.out rfl
        have e0 := laid0 (k := s) (v := .slice al ts.length cl) m0
        have e1 := laid1 (k := s) (v := .slice al ts.length cl) m1
        have F : Hid (RfAt (laid wr w.heap.size s (.slice al ts.length cl)) lo B lr 0 ∧ Tg B w (laid wr w.heap.size s (.slice al ts.length cl)) ∧ IsI (laid wr w.heap.size s (.slice al ts.length cl)) al ts ∧ (al = none → ts = [] ∧ cl = 0)) :=
          ⟨HS.out.rd.tg laid_tg (by omega), HS.out.tg.laid (Nat.le_refl _), ownsI_isI HS.out.all (HS.out.own.tg laid_tg (by omega)), HS.out.own.parts.2.2.1⟩
        unfold laid at e0 e1
        clear hfk hbb
        go_wp2
        refine bodyPost_ret (v := .agg #[.int .i64 s, .slice al ts.length cl]) (by simp [results, Try.results45, go_sem, e0, e1]) rfl ⟨al, cl, lr, rfl, F.out.2.2.1, F.out.2.2.2, F.out.1, fun _ => rfl, F.out.2.1⟩
      · have hE : (([] : List Int), ([] : List Int), er') = (qs, rest, er) := by rw [← HFK.out, hfk]
        simp only [Prod.mk.injEq] at hE
        obtain ⟨rfl, rfl, rfl⟩ := hE
        have hq : (er' != 0) = true := by rw [bne_iff_ne]; exact hne
        have hq' : (er' == 0) = false := by rw [beq_eq_false_iff_ne]; exact hne
        obtain ⟨rfl, rfl, rfl⟩ := HS1.out hne
        have e0 := laid0 (k := 0) (v := .slice none 0 0) m0
        have e1 := laid1 (k := 0) (v := .slice none 0 0) m1
        have F : Hid (RfAt (laid wr w.heap.size 0 (.slice none 0 0)) lo B lr er' ∧ Tg B w (laid wr w.heap.size 0 (.slice none 0 0))) := ⟨HS.out.rd.tg laid_tg (by omega), HS.out.tg.laid (Nat.le_refl _)⟩
        unfold laid at e0 e1
        clear hfk hbb
        by_cases hkn : (k : Int) < (N : Int)
        all_goals
          go_wp2
          refine bodyPost_ret (v := .agg #[.int .i64 0, .slice none 0 0]) (by simp [results, Try.results45, go_sem, e0, e1]) rfl ⟨none, 0, lr, rfl, IsI.nil _ _, fun _ => ⟨rfl, rfl⟩, F.out.1, fun h => absurd h hne, F.out.2⟩

/-- What Read answers. -/
theorem rread_any (lo B : Nat) (l : List Int) (s : Int) (ps rest : List Int) (er : Int) (w : World) (h : RfAt w lo B l 0) (hk : readK l = (s, ps, rest, er)) :
    Calls Try.prog 45 #[.pointer (some ⟨B, 0, none⟩)] w (ReadPostF w lo B s ps rest er) := by
  rcases up_cases l 4096 h.allB with ⟨v, r, hu, v0, v1, hl⟩ | ⟨e', hu, he⟩
  · by_cases hv : v = 0
    · subst hv
      rw [read_zero hu] at hk
      simp only [Prod.mk.injEq] at hk
      obtain ⟨rfl, rfl, rfl, rfl⟩ := hk
      exact rread_none lo B l r 0 4 w h hu rfl (by omega)
    · have hr : AllB r := by have := h.allB; rw [hl] at this; exact this.right
      rcases up_cases r 16 hr with ⟨n, r', hu', n0, n1, hl'⟩ | ⟨e', hu', he⟩
      · obtain ⟨qs, rs, fe, hf⟩ : ∃ qs rs fe, fieldsK v n.toNat 0 r' [] = (qs, rs, fe) := ⟨_, _, _, rfl⟩
        by_cases hfe : fe = 0
        · subst hfe
          rw [read_ok hu hv hu' hf] at hk
          simp only [Prod.mk.injEq] at hk
          obtain ⟨rfl, rfl, rfl, rfl⟩ := hk
          exact rread_fields lo B l r r' v n.toNat qs rs 0 w h hu (by omega) v1 (by rw [hu', Int.toNat_of_nonneg n0]) (by omega) hf v qs rs (fun _ => ⟨rfl, rfl, rfl⟩) (fun h => absurd rfl h)
        · rw [read_bad3 hu hv hu' hf hfe] at hk
          simp only [Prod.mk.injEq] at hk
          obtain ⟨rfl, rfl, rfl, rfl⟩ := hk
          exact rread_fields lo B l r r' v n.toNat qs rs fe w h hu (by omega) v1 (by rw [hu', Int.toNat_of_nonneg n0]) (by omega) hf 0 [] [] (fun h => absurd h hfe) (fun _ => ⟨rfl, rfl, rfl⟩)
      · rw [read_bad2 hu hv hu' (by omega)] at hk
        simp only [Prod.mk.injEq] at hk
        obtain ⟨rfl, rfl, rfl, rfl⟩ := hk
        exact rread_count lo B l r v e' w h hu (by omega) v1 hu' (by omega)
  · rw [read_bad1 hu (by omega)] at hk
    simp only [Prod.mk.injEq] at hk
    obtain ⟨rfl, rfl, rfl, rfl⟩ := hk
    exact rread_none lo B l l e' e' w h hu (by rw [failV, if_neg (by omega)]) (by omega)
end Go.Proofs.Ytjalagjnhjaaoaa
