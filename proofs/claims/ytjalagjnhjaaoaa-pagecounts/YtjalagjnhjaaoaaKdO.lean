/- A kind is read, going on: what Read answers, and what becomes of the reader. -/
import Derived.Test.YtjalagjnhjaaoaaKdN
namespace Go.Proofs.Ytjalagjnhjaaoaa
open Go.RowKit
set_option linter.unusedVariables false
set_option maxRecDepth 4000

/-- Under way: so many fields have been read, or there was a fault. -/
structure RdSt (w wr : World) (B K : Nat) (s : Int) (N : Nat) (l2 : List Int) (k : Nat) (f : Int) (qs : List Int) (al : Option Addr) (cl : Nat) (lr : List Int) (er : Int) : Prop where
  rd : RdAt wr B lr er
  box : wr.heap[K]? = some (.cells #[.int .i64 s, .slice al qs.length cl] 54 (0, 0))
  res : wr.heap[w.heap.size]? = some (.cells #[.int .i64 0, .slice none 0 0] 54 (0, 0))
  own : OwnsI wr (K + 1) al qs cl
  tg : Tg B w wr
  all : AllI qs
  len : qs.length = k
  ph : (er = 0 ∧ fieldsK s N 0 l2 [] = fieldsK s (N - k) f lr qs ∧ 0 ≤ f ∧ f ≤ s) ∨ (er ≠ 0 ∧ fieldsK s N 0 l2 [] = ([], [], er) ∧ 0 ≤ f ∧ f < s + 8)
  lt : w.heap.size < K
  ltB : B < w.heap.size

/-- A field more: the list has grown, and lies in the box. -/
theorem RdSt.next {w wr w2 w4 : World} {B K : Nat} {s : Int} {N : Nat} {l2 : List Int} {k : Nat} {f : Int} {qs : List Int} {al : Option Addr} {cl : Nat} {lr : List Int} {er : Int} (h : RdSt w wr B K s N l2 k f qs al cl lr er)
    {p : Int} {lr' : List Int} {er' : Int} (hr : RdAt w2 B lr' er') (ht : Tg B wr w2) {a4 : Option Addr} {c4 : Nat} (o4 : OwnsI w4 (K + 1) a4 (qs ++ [p]) c4) (b4 : Below (K + 1) (w2.alloc (.cells #[.int .i64 p] 3)) w4) (hp : -9223372036854775808 ≤ p ∧ p ≤ 9223372036854775807)
    (hph : (er' = 0 ∧ fieldsK s N 0 l2 [] = fieldsK s (N - (k + 1)) (p + 8) lr' (qs ++ [p]) ∧ 0 ≤ p + 8 ∧ p + 8 ≤ s) ∨ (er' ≠ 0 ∧ fieldsK s N 0 l2 [] = ([], [], er') ∧ 0 ≤ p + 8 ∧ p + 8 < s + 8)) :
    RdSt w (w4.setCell ⟨K, 1, none⟩ (.slice a4 (qs ++ [p]).length c4)) B K s N l2 (k + 1) (p + 8) (qs ++ [p]) a4 c4 lr' er' := by
  have hK : K < wr.heap.size := (Array.getElem?_eq_some_iff.1 h.box).1
  have hlt := h.lt
  have hltB := h.ltB
  have hs2 := ht.size
  have ba : Below w2.heap.size w2 (w2.alloc (.cells #[.int .i64 p] 3)) := (Below.refl _ _).alloc (Nat.le_refl _) _
  have b24 : Below (K + 1) w2 w4 := (ba.mono (by omega)).trans b4
  have hbox : w4.heap[K]? = some (.cells #[.int .i64 s, .slice al qs.length cl] 54 (0, 0)) := by rw [b24.block K (by omega), ht.block K hK (by omega)]; exact h.box
  have hres : w4.heap[w.heap.size]? = some (.cells #[.int .i64 0, .slice none 0 0] 54 (0, 0)) := by rw [b24.block _ (by omega), ht.block _ (by omega) (by omega)]; exact h.res
  have on := Only.set K 1 (.slice a4 (qs ++ [p]).length c4) w4
  have ts := Tg.ofOnly on
  refine ⟨(hr.below b24 (by omega)).tg ts (by omega), ?_, ?_, ?_, ?_, ?_, by simp [h.len], hph, hlt, hltB⟩
  · rw [heap_setCell_same w4 K 1 _ _ _ hbox]; rfl
  · rw [on.block _ (by omega)]; exact hres
  · exact o4.tg ts (by omega)
  · have t1 := h.tg.trans ht
    refine ⟨?_, ?_, ?_, ?_, ?_⟩
    · exact ts.os.trans (b24.os.trans t1.os)
    · exact ts.tape.trans (b24.tape.trans t1.tape)
    · exact ts.output.trans (b24.output.trans t1.output)
    · have := t1.size; have := b24.size; have := ts.size; omega
    · intro i hi hn
      have := t1.size
      rw [on.block i (by omega), b24.block i (by omega)]
      exact t1.block i hi hn
  · intro x hx
    rcases List.mem_append.1 hx with hx | hx
    · exact h.all x hx
    · simp at hx; subst hx; exact hp

/-- What Read leaves behind. -/
def ReadPost (w : World) (B : Nat) (s : Int) (ps rest : List Int) (er : Int) (e : Ending) (w' : World) : Prop :=
  ∃ a' c' l', e = .returned (.agg #[.int .i64 s, .slice a' ps.length c']) ∧ IsI w' a' ps ∧ (a' = none → ps = [] ∧ c' = 0) ∧ RdAt w' B l' er ∧ (er = 0 → l' = rest) ∧ Tg B w w' ∧ ∀ ad, a' = some ad → w.heap.size ≤ ad.block

/-- The first box: what is answered; the second: the kind. -/
theorem boxes {w w1 : World} {B : Nat} (s : Int) (hB : B < w.heap.size) (ht : Tg B (w.alloc (.cells #[.int .i64 0, .slice none 0 0] 54)) w1) :
    (w1.alloc (.cells #[.int .i64 s, .slice none 0 0] 54)).heap[w1.heap.size]? = some (.cells #[.int .i64 s, .slice none 0 0] 54 (0, 0)) ∧
    (w1.alloc (.cells #[.int .i64 s, .slice none 0 0] 54)).heap[w.heap.size]? = some (.cells #[.int .i64 0, .slice none 0 0] 54 (0, 0)) ∧
    Tg B w (w1.alloc (.cells #[.int .i64 s, .slice none 0 0] 54)) ∧ w.heap.size < w1.heap.size := by
  have hs : w.heap.size + 1 ≤ w1.heap.size := by have := ht.size; simpa using this
  have ba : Below w1.heap.size w1 (w1.alloc (.cells #[.int .i64 s, .slice none 0 0] 54)) := (Below.refl _ _).alloc (Nat.le_refl _) _
  have b0 : Below w.heap.size w (w.alloc (.cells #[.int .i64 0, .slice none 0 0] 54)) := (Below.refl _ _).alloc (Nat.le_refl _) _
  refine ⟨Go.heap_alloc_new w1 _, ?_, (Tg.ofBelow b0).trans (ht.trans (Tg.ofBelow ba)), by omega⟩
  rw [ba.block _ (by omega), ht.block _ (by simp) (by omega)]
  exact Go.heap_alloc_new w _
theorem cells_box {w : World} {g : Nat} {s : Int} {v : Value} (h : w.heap[g]? = some (.cells #[.int .i64 s, v] 54 (0, 0))) : w.cell? ⟨g, 0, none⟩ = some (.int .i64 s) ∧ w.cell? ⟨g, 1, none⟩ = some v ∧ w.frozen? ⟨g, 0, none⟩ = false ∧ w.frozen? ⟨g, 1, none⟩ = false :=
  ⟨cell_of_row _ _ 0 _ _ _ h, cell_of_row _ _ 1 _ _ _ h, frozen_of_row _ _ 0 _ _ h, frozen_of_row _ _ 1 _ _ h⟩
theorem laid_tg {w : World} {g : Nat} {k : Int} {v : Value} : Tg g w (laid w g k v) := (Tg.ofOnly (Only.set g 0 _ w)).trans (Tg.ofOnly (Only.set g 1 _ _))
theorem laid_only {w : World} {g : Nat} {k : Int} {v : Value} : Only g w (laid w g k v) := (Only.set g 0 _ w).trans (Only.set g 1 _ _)
/-- Of what is there just B may be another, though a new box is stored into. -/
theorem Tg.laid {w w' : World} {B g : Nat} {k : Int} {v : Value} (h : Tg B w w') (hg : w.heap.size ≤ g) : Tg B w (laid w' g k v) := by
  have on := laid_only (w := w') (g := g) (k := k) (v := v)
  exact ⟨on.os.trans h.os, on.tape.trans h.tape, on.output.trans h.output, by rw [on.size]; exact h.size, fun i hi hn => (on.block i (by omega)).trans (h.block i hi hn)⟩

set_option maxHeartbeats 2000000 in
/-- The size is none, or a fault. -/
theorem read_none (B : Nat) (l l1 : List Int) (e1 er : Int) (w : World) (h : RdAt w B l 0) (hu : upS l 0 4096 = (0, l1, e1)) (he : failV e1 4 = er) (hne : er ≠ 0) :
    Calls Try.prog 43 #[.pointer (some ⟨B, 0, none⟩)] w (ReadPost w B 0 [] [] er) := by
  have HR : Hid (RdAt (w.alloc (.cells #[.int .i64 0, .slice none 0 0] 54)) B l 0) := rd_keep h ((Below.refl _ _).alloc (Nat.le_refl _) _)
  have HU : Hid (upS l 0 4096 = (0, l1, e1)) := hu
  have HE : Hid (failV e1 4 = er) := he
  have hB := h.lt
  have hq : (er != 0) = true := by rw [bne_iff_ne]; exact hne
  have HV : Hid (upS l1 er 16 = (0, l1, er)) := by show _ = _; rw [upS, if_neg hne]
  clear h hu he
  go_enter Try.func43, Try.ntmps43
  go_wp2_with fail
  refine (upto_any B l 0 4096 _ HR.out).mono ?_
  rw [HU.out]
  rintro r w1 ⟨rfl, r1, g1⟩
  obtain ⟨x1, x2, x3, x4⟩ := boxes 0 hB (Tg.ofGrown g1)
  obtain ⟨D, hD⟩ : ∃ D, w1.alloc (.cells #[.int .i64 0, .slice none 0 0] 54) = D := ⟨_, rfl⟩
  have R1 : Hid (RdAt D B l1 e1) := by show RdAt _ _ _ _; rw [← hD]; exact rd_keep r1 ((Below.refl _ _).alloc (Nat.le_refl _) _)
  rw [hD] at x1 x2 x3
  have HD : Hid _ := hD
  clear hD
  have X2 : Hid _ := x2
  have X3 : Hid (Tg B w D) := x3
  clear r1 g1 x1 x2 x3
  go_wp2_with fail
  rw [HD.out]
  refine (fail_any B l1 e1 4 _ R1.out).mono ?_
  rw [HE.out]
  rintro r w2 ⟨rfl, r2, g2⟩
  have R2 : Hid (RdAt w2 B l1 er) := r2
  have T2 : Hid (Tg B D w2) := Tg.ofGrown g2
  clear r2 g2
  go_wp2_with fail
  refine (upto_any B l1 er 16 _ R2.out).mono ?_
  rw [HV.out]
  rintro r w3 ⟨rfl, r3, g3⟩
  have R3 : Hid (RdAt w3 B l1 er) := r3
  have T3 : Hid (Tg B D w3) := T2.out.trans (Tg.ofGrown g3)
  clear r3 g3
  have hz : D.heap.size ≤ w3.heap.size := T3.out.size
  have x5 : w3.heap[w.heap.size]? = some (.cells #[.int .i64 0, .slice none 0 0] 54 (0, 0)) := by rw [T3.out.block _ (Array.getElem?_eq_some_iff.1 X2.out).1 (by omega)]; exact X2.out
  obtain ⟨m0, m1, mz0, mz1⟩ := cells_box x5
  have e0 := laid0 (k := 0) (v := .slice none 0 0) m0
  have e1' := laid1 (k := 0) (v := .slice none 0 0) m1
  have F : Hid (RdAt (laid w3 w.heap.size 0 (.slice none 0 0)) B l1 er ∧ Tg B w (laid w3 w.heap.size 0 (.slice none 0 0))) := ⟨R3.out.tg laid_tg (by omega), (X3.out.trans T3.out).laid (Nat.le_refl _)⟩
  unfold laid at e0 e1'
  clear x5
  go_wp2
  refine wp_loop_rounds 1 ?_
  rw [rounds_succ]
  go_wp2_with (go_at_call 54; refine (err_any B l1 er _ R3.out).mono ?_; rintro r w' ⟨rfl, rfl⟩)
  refine bodyPost_ret (v := .agg #[.int .i64 0, .slice none 0 0]) (by simp [results, Try.results43, go_sem, e0, e1']) rfl ⟨none, 0, l1, rfl, IsI.nil _ _, fun _ => ⟨rfl, rfl⟩, F.out.1, fun h => absurd h hne, F.out.2, fun ad h => by cases h⟩

set_option maxHeartbeats 2000000 in
/-- How many fields there are is a fault. -/
theorem read_count (B : Nat) (l l1 : List Int) (s er : Int) (w : World) (h : RdAt w B l 0) (hu : upS l 0 4096 = (s, l1, 0)) (s0 : 1 ≤ s) (s1 : s ≤ 4096) (hv : upS l1 0 16 = (0, l1, er)) (hne : er ≠ 0) :
    Calls Try.prog 43 #[.pointer (some ⟨B, 0, none⟩)] w (ReadPost w B 0 [] [] er) := by
  have HR : Hid (RdAt (w.alloc (.cells #[.int .i64 0, .slice none 0 0] 54)) B l 0) := rd_keep h ((Below.refl _ _).alloc (Nat.le_refl _) _)
  have HU : Hid (upS l 0 4096 = (s, l1, 0)) := hu
  have hB := h.lt
  have hq : (er != 0) = true := by rw [bne_iff_ne]; exact hne
  have HV : Hid (upS l1 0 16 = (0, l1, er)) := hv
  have hs : ¬ s = 0 := by omega
  have hs' : (s == 0) = false := by rw [beq_eq_false_iff_ne]; exact hs
  clear h hu hv
  go_enter Try.func43, Try.ntmps43
  go_wp2_with fail
  refine (upto_any B l 0 4096 _ HR.out).mono ?_
  rw [HU.out]
  rintro r w1 ⟨rfl, r1, g1⟩
  obtain ⟨x1, x2, x3, x4⟩ := boxes s hB (Tg.ofGrown g1)
  obtain ⟨D, hD⟩ : ∃ D, w1.alloc (.cells #[.int .i64 s, .slice none 0 0] 54) = D := ⟨_, rfl⟩
  have R1 : Hid (RdAt D B l1 0) := by show RdAt _ _ _ _; rw [← hD]; exact rd_keep r1 ((Below.refl _ _).alloc (Nat.le_refl _) _)
  rw [hD] at x1 x2 x3
  have HD : Hid _ := hD
  clear hD
  have X2 : Hid _ := x2
  have X3 : Hid (Tg B w D) := x3
  clear r1 g1 x1 x2 x3
  go_wp2_with fail
  rw [HD.out]
  refine (upto_any B l1 0 16 _ R1.out).mono ?_
  rw [HV.out]
  rintro r w3 ⟨rfl, r3, g3⟩
  have R3 : Hid (RdAt w3 B l1 er) := r3
  have T3 : Hid (Tg B D w3) := Tg.ofGrown g3
  clear r3 g3
  have x5 : w3.heap[w.heap.size]? = some (.cells #[.int .i64 0, .slice none 0 0] 54 (0, 0)) := by rw [T3.out.block _ (Array.getElem?_eq_some_iff.1 X2.out).1 (by omega)]; exact X2.out
  obtain ⟨m0, m1, mz0, mz1⟩ := cells_box x5
  have e0 := laid0 (k := 0) (v := .slice none 0 0) m0
  have e1' := laid1 (k := 0) (v := .slice none 0 0) m1
  have F : Hid (RdAt (laid w3 w.heap.size 0 (.slice none 0 0)) B l1 er ∧ Tg B w (laid w3 w.heap.size 0 (.slice none 0 0))) := ⟨R3.out.tg laid_tg (by omega), (X3.out.trans T3.out).laid (Nat.le_refl _)⟩
  unfold laid at e0 e1'
  clear x5
  go_wp2
  refine wp_loop_rounds 1 ?_
  rw [rounds_succ]
  go_wp2_with (go_at_call 54; refine (err_any B l1 er _ R3.out).mono ?_; rintro r w' ⟨rfl, rfl⟩)
  refine bodyPost_ret (v := .agg #[.int .i64 0, .slice none 0 0]) (by simp [results, Try.results43, go_sem, e0, e1']) rfl ⟨none, 0, l1, rfl, IsI.nil _ _, fun _ => ⟨rfl, rfl⟩, F.out.1, fun h => absurd h hne, F.out.2, fun ad h => by cases h⟩

set_option maxHeartbeats 4000000 in
/-- The fields are read one behind the other. -/
theorem read_fields (B : Nat) (l l1 l2 : List Int) (s : Int) (N : Nat) (qs rest : List Int) (er : Int) (w : World) (h : RdAt w B l 0) (hu : upS l 0 4096 = (s, l1, 0)) (s0 : 1 ≤ s) (s1 : s ≤ 4096) (hv : upS l1 0 16 = (((N : Nat) : Int), l2, 0)) (hN : N ≤ 16) (hf : fieldsK s N 0 l2 [] = (qs, rest, er)) (S : Int) (PS RS : List Int) (hS0 : er = 0 → s = S ∧ qs = PS ∧ rest = RS) (hS1 : er ≠ 0 → 0 = S ∧ [] = PS ∧ [] = RS) :
    Calls Try.prog 43 #[.pointer (some ⟨B, 0, none⟩)] w (ReadPost w B S PS RS er) := by
  have HS0 : Hid (er = 0 → s = S ∧ qs = PS ∧ rest = RS) := hS0
  have HS1 : Hid (er ≠ 0 → 0 = S ∧ [] = PS ∧ [] = RS) := hS1
  clear hS0 hS1
  have HR : Hid (RdAt (w.alloc (.cells #[.int .i64 0, .slice none 0 0] 54)) B l 0) := rd_keep h ((Below.refl _ _).alloc (Nat.le_refl _) _)
  have HU : Hid (upS l 0 4096 = (s, l1, 0)) := hu
  have HFK : Hid (fieldsK s N 0 l2 [] = (qs, rest, er)) := hf
  have hB := h.lt
  have HV : Hid (upS l1 0 16 = (((N : Nat) : Int), l2, 0)) := hv
  have hs : ¬ s = 0 := by omega
  have hs' : (s == 0) = false := by rw [beq_eq_false_iff_ne]; exact hs
  clear h hu hv hf
  go_enter Try.func43, Try.ntmps43
  go_wp2_with fail
  refine (upto_any B l 0 4096 _ HR.out).mono ?_
  rw [HU.out]
  rintro r w1 ⟨rfl, r1, g1⟩
  obtain ⟨x1, x2, x3, x4⟩ := boxes s hB (Tg.ofGrown g1)
  obtain ⟨D, hD⟩ : ∃ D, w1.alloc (.cells #[.int .i64 s, .slice none 0 0] 54) = D := ⟨_, rfl⟩
  have R1 : Hid (RdAt D B l1 0) := by show RdAt _ _ _ _; rw [← hD]; exact rd_keep r1 ((Below.refl _ _).alloc (Nat.le_refl _) _)
  rw [hD] at x1 x2 x3
  have HD : Hid _ := hD
  clear hD
  have X1 : Hid _ := x1
  have X2 : Hid _ := x2
  have X3 : Hid (Tg B w D) := x3
  clear r1 g1 x1 x2 x3
  go_wp2_with fail
  rw [HD.out]
  refine (upto_any B l1 0 16 _ R1.out).mono ?_
  rw [HV.out]
  rintro r w3 ⟨rfl, r3, g3⟩
  have T3 : Hid (Tg B D w3) := Tg.ofGrown g3
  have S0 : Hid (RdSt w w3 B w1.heap.size s N l2 0 0 [] none 0 l2 0) :=
    ⟨r3, by rw [T3.out.block _ (Array.getElem?_eq_some_iff.1 X1.out).1 (by omega)]; exact X1.out, by rw [T3.out.block _ (Array.getElem?_eq_some_iff.1 X2.out).1 (by omega)]; exact X2.out, ownsI_none _ _, X3.out.trans T3.out, fun x hx => by (cases hx), rfl, .inl ⟨rfl, rfl, by omega, by omega⟩, x4, hB⟩
  obtain ⟨K, hK⟩ : ∃ K, w1.heap.size = K := ⟨_, rfl⟩
  rw [hK] at S0 x4
  clear r3 g3 HD X1 X2 X3 T3 R1
  go_wp2
  clear hK
  go_loopw [4, 17] (fun fv iv wr => ∃ (k : Nat) (f : Int) (qs : List Int) (al : Option Addr) (cl : Nat) (lr : List Int) (er : Int), k ≤ N ∧ iv = .int .u64 k ∧ fv = .int .i64 f ∧ RdSt w wr B K s N l2 k f qs al cl lr er) (fun _ iv _ => N - (intOf iv).toNat)
  case atStart => exact ⟨0, 0, [], none, 0, l2, 0, Nat.zero_le _, rfl, rfl, S0.out⟩
  case round =>
    obtain ⟨k, f, ts, al, cl, lr, er', hk, rfl, rfl, hS⟩ := hrel
    have HS : Hid (RdSt w wr B K s N l2 k f ts al cl lr er') := hS
    obtain ⟨k0, k1, kz0, kz1⟩ := cells_box hS.box
    have hph := hS.ph
    have HLEN : Hid (ts.length = k) := hS.len
    have hKr : K < wr.heap.size := (Array.getElem?_eq_some_iff.1 hS.box).1
    have hbb := hS.rd.allB
    clear hS
    by_cases hlt : k < N
    · have hf0 : 0 ≤ f ∧ f ≤ 8192 := by omega
      have hlen' : ts.length ≤ 100000 := by have := HLEN.out; omega
      obtain ⟨n, hn⟩ : ∃ n, N - k = n + 1 := ⟨N - k - 1, by omega⟩
      have hn' : N - (k + 1) = n := by omega
      have STEP : Hid (Calls Try.prog 53 #[.pointer (some ⟨B, 0, none⟩), .int .i64 f, .int .i64 s] wr fun e w' => ∃ p lr' er'', e = .returned (.int .i64 p) ∧ 0 ≤ p ∧ p ≤ 4096 ∧ RdAt w' B lr' er'' ∧ Tg B wr w' ∧
          ((er'' = 0 ∧ fieldsK s N 0 l2 [] = fieldsK s (N - (k + 1)) (p + 8) lr' (ts ++ [p]) ∧ 0 ≤ p + 8 ∧ p + 8 ≤ s) ∨ (er'' ≠ 0 ∧ fieldsK s N 0 l2 [] = ([], [], er'') ∧ 0 ≤ p + 8 ∧ p + 8 < s + 8))) := by
        rcases hph with ⟨rfl, hfk, f0, f1⟩ | ⟨hne, hfk, f0, f1⟩
        · rw [hn] at hfk
          rw [hn']
          rcases up_cases lr 18446744073709551615 hbb with ⟨v, r, hu, v0, v1, hl⟩ | ⟨e', hu, he'⟩
          · by_cases hvv : v < (s - f) / 8
            · refine (readField_go B lr r f s v wr HS.out.rd f0 f1 s1 v0 hu hvv).mono ?_
              rintro e w' ⟨rfl, r2, t2⟩
              exact ⟨f + 8 * v, r, 0, rfl, by omega, by omega, r2, t2, .inl ⟨rfl, by rw [hfk, fields_go hu hvv], by omega, by omega⟩⟩
            · refine (readField_far B lr r f s v wr HS.out.rd f0 f1 s1 hu (by omega)).mono ?_
              rintro e w' ⟨rfl, r2, t2⟩
              exact ⟨0, r, 4, rfl, by omega, by omega, r2, t2, .inr ⟨by omega, by rw [hfk, fields_far hu (by omega)], by omega, by omega⟩⟩
          · refine (readField_bad B lr f s 0 e' wr HS.out.rd f0 (by omega) (by omega) s1 hu (by omega)).mono ?_
            rintro e w' ⟨p, rfl, p0, p1, r2, t2⟩
            exact ⟨p, lr, e', rfl, p0, by omega, r2, t2, .inr ⟨by omega, by rw [hfk, fields_bad hu (by omega)], by omega, by omega⟩⟩
        · refine (readField_bad B lr f s er' er' wr HS.out.rd f0 f1 (by omega) s1 (by rw [upS, if_neg hne]) hne).mono ?_
          rintro e w' ⟨p, rfl, p0, p1, r2, t2⟩
          exact ⟨p, lr, er', rfl, p0, by omega, r2, t2, .inr ⟨hne, hfk, by omega, by omega⟩⟩
      clear hph hbb
      go_wp2_with fail
      refine STEP.out.mono ?_
      rintro e w2 ⟨p, lr2, er2, rfl, p0, p1, r2, t2, ph2⟩
      have R2 : Hid (RdAt w2 B lr2 er2) := r2
      have T2 : Hid (Tg B wr w2) := t2
      have PH : Hid _ := ph2
      have ltB := HS.out.ltB
      have lt := HS.out.lt
      have hz2 : K < w2.heap.size := Nat.lt_of_lt_of_le hKr T2.out.size
      have box2 : w2.heap[K]? = some (.cells #[.int .i64 s, .slice al ts.length cl] 54 (0, 0)) := by rw [T2.out.block K hKr (by omega)]; exact HS.out.box
      obtain ⟨n0, n1, nz0, nz1⟩ := cells_box box2
      have O2 : Hid (OwnsI (w2.alloc (.cells #[.int .i64 p] 3)) (K + 1) al ts cl) := (HS.out.own.tg t2 (by omega)).alloc _
      have BX : Hid (w2.heap[K]? = some (.cells #[.int .i64 s, .slice al ts.length cl] 54 (0, 0))) := box2
      clear r2 t2 ph2 box2
      go_wp2_with (at_builtin; refine wpList_appi rfl _ _ rfl (K + 1) ?x1 al ts cl rfl O2.out (some ⟨w2.heap.size, 0, none⟩) [p] 1 rfl ?x2 ?x3 ?x4 ?x5 ?x6)
      case x1 => simp; omega
      case x2 => exact (one_isI w2 p (by omega))
      case x3 => exact (fun h => by cases h)
      case x4 => exact hlen'
      case x5 => simp
      intro a4 c4 w4 o4 b4
      have NX : Hid _ := HS.out.next R2.out T2.out o4 b4 (by omega) PH.out
      have box4 : w4.heap[K]? = some (.cells #[.int .i64 s, .slice al ts.length cl] 54 (0, 0)) := (by rw [b4.block K (by omega), ((Below.refl _ w2).alloc (Nat.le_refl _) (.cells #[.int .i64 p] 3)).block K hz2]; exact BX.out)
      obtain ⟨o0, o1, oz0, oz1⟩ := cells_box box4
      clear o4 b4 box4
      go_wp2
      go_roundw
      case rel =>
        refine ⟨k + 1, p + 8, ts ++ [p], a4, c4, lr2, er2, by omega, by go_num, rfl, ?_⟩
        have := NX.out
        simpa using this
      case measure => simp [intOf]; omega
    · obtain rfl : k = N := by omega
      have ltB := HS.out.ltB
      have lt := HS.out.lt
      obtain ⟨m0, m1, mz0, mz1⟩ := cells_box HS.out.res
      rcases hph with ⟨rfl, hfk, f0, f1⟩ | ⟨hne, hfk, f0, f1⟩
      · have hE : (ts, lr, (0 : Int)) = (qs, rest, er) := by rw [← HFK.out, hfk, Nat.sub_self]; rfl
        simp only [Prod.mk.injEq] at hE
        obtain ⟨rfl, rfl, rfl⟩ := hE
        obtain ⟨rfl, rfl, rfl⟩ := HS0.out rfl
        have e0 := laid0 (k := s) (v := .slice al ts.length cl) m0
        have e1 := laid1 (k := s) (v := .slice al ts.length cl) m1
        have F : Hid (RdAt (laid wr w.heap.size s (.slice al ts.length cl)) B lr 0 ∧ Tg B w (laid wr w.heap.size s (.slice al ts.length cl)) ∧ IsI (laid wr w.heap.size s (.slice al ts.length cl)) al ts ∧ (al = none → ts = [] ∧ cl = 0)) :=
          ⟨HS.out.rd.tg laid_tg (by omega), HS.out.tg.laid (Nat.le_refl _), ownsI_isI HS.out.all (HS.out.own.tg laid_tg (by omega)), HS.out.own.parts.2.2.1⟩
        unfold laid at e0 e1
        clear hfk hbb
        go_wp2_with (go_at_call 54; refine (err_any B lr 0 _ HS.out.rd).mono ?_; rintro r w' ⟨rfl, rfl⟩)
        refine bodyPost_ret (v := .agg #[.int .i64 s, .slice al ts.length cl]) (by simp [results, Try.results43, go_sem, e0, e1]) rfl ⟨al, cl, lr, rfl, F.out.2.2.1, F.out.2.2.2, F.out.1, fun _ => rfl, F.out.2.1, fun ad h => by have := (HS.out.own.parts.2.2.2 ad h).1; omega⟩
      · have hE : (([] : List Int), ([] : List Int), er') = (qs, rest, er) := by rw [← HFK.out, hfk]
        simp only [Prod.mk.injEq] at hE
        obtain ⟨rfl, rfl, rfl⟩ := hE
        have hq : (er' != 0) = true := by rw [bne_iff_ne]; exact hne
        obtain ⟨rfl, rfl, rfl⟩ := HS1.out hne
        have e0 := laid0 (k := 0) (v := .slice none 0 0) m0
        have e1 := laid1 (k := 0) (v := .slice none 0 0) m1
        have F : Hid (RdAt (laid wr w.heap.size 0 (.slice none 0 0)) B lr er' ∧ Tg B w (laid wr w.heap.size 0 (.slice none 0 0))) := ⟨HS.out.rd.tg laid_tg (by omega), HS.out.tg.laid (Nat.le_refl _)⟩
        unfold laid at e0 e1
        clear hfk hbb
        go_wp2_with (go_at_call 54; refine (err_any B lr er' _ HS.out.rd).mono ?_; rintro r w' ⟨rfl, rfl⟩)
        refine bodyPost_ret (v := .agg #[.int .i64 0, .slice none 0 0]) (by simp [results, Try.results43, go_sem, e0, e1]) rfl ⟨none, 0, lr, rfl, IsI.nil _ _, fun _ => ⟨rfl, rfl⟩, F.out.1, fun h => absurd h hne, F.out.2, fun ad h => by cases h⟩

/-- What Read answers. -/
theorem read_any (B : Nat) (l : List Int) (s : Int) (ps rest : List Int) (er : Int) (w : World) (h : RdAt w B l 0) (hk : readK l = (s, ps, rest, er)) :
    Calls Try.prog 43 #[.pointer (some ⟨B, 0, none⟩)] w (ReadPost w B s ps rest er) := by
  rcases up_cases l 4096 h.allB with ⟨v, r, hu, v0, v1, hl⟩ | ⟨e', hu, he⟩
  · by_cases hv : v = 0
    · subst hv
      rw [read_zero hu] at hk
      simp only [Prod.mk.injEq] at hk
      obtain ⟨rfl, rfl, rfl, rfl⟩ := hk
      exact read_none B l r 0 4 w h hu rfl (by omega)
    · have hr : AllB r := by have := h.allB; rw [hl] at this; exact this.right
      rcases up_cases r 16 hr with ⟨n, r', hu', n0, n1, hl'⟩ | ⟨e', hu', he⟩
      · obtain ⟨qs, rs, fe, hf⟩ : ∃ qs rs fe, fieldsK v n.toNat 0 r' [] = (qs, rs, fe) := ⟨_, _, _, rfl⟩
        by_cases hfe : fe = 0
        · subst hfe
          rw [read_ok hu hv hu' hf] at hk
          simp only [Prod.mk.injEq] at hk
          obtain ⟨rfl, rfl, rfl, rfl⟩ := hk
          exact read_fields B l r r' v n.toNat qs rs 0 w h hu (by omega) v1 (by rw [hu', Int.toNat_of_nonneg n0]) (by omega) hf v qs rs (fun _ => ⟨rfl, rfl, rfl⟩) (fun h => absurd rfl h)
        · rw [read_bad3 hu hv hu' hf hfe] at hk
          simp only [Prod.mk.injEq] at hk
          obtain ⟨rfl, rfl, rfl, rfl⟩ := hk
          exact read_fields B l r r' v n.toNat qs rs fe w h hu (by omega) v1 (by rw [hu', Int.toNat_of_nonneg n0]) (by omega) hf 0 [] [] (fun h => absurd h hfe) (fun _ => ⟨rfl, rfl, rfl⟩)
      · rw [read_bad2 hu hv hu' (by omega)] at hk
        simp only [Prod.mk.injEq] at hk
        obtain ⟨rfl, rfl, rfl, rfl⟩ := hk
        exact read_count B l r v e' w h hu (by omega) v1 hu' (by omega)
  · rw [read_bad1 hu (by omega)] at hk
    simp only [Prod.mk.injEq] at hk
    obtain ⟨rfl, rfl, rfl, rfl⟩ := hk
    exact read_none B l l e' e' w h hu (by rw [failV, if_neg (by omega)]) (by omega)
end Go.Proofs.Ytjalagjnhjaaoaa
