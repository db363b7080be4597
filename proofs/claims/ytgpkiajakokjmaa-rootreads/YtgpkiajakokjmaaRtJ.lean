/- Layer 20: Read. -/
import Derived.Test.YtgpkiajakokjmaaRtI
namespace Go.Proofs.Ytgpkiajakokjmaa
open Go.RowKit
set_option linter.unusedVariables false
set_option maxRecDepth 4000

/-- A root's seven cells are stored. -/
def layR (w : World) (g : Nat) (a b c d e f v : Value) : World := ((((((w.setCell ⟨g, 0, none⟩ a).setCell ⟨g, 1, none⟩ b).setCell ⟨g, 2, none⟩ c).setCell ⟨g, 3, none⟩ d).setCell ⟨g, 4, none⟩ e).setCell ⟨g, 5, none⟩ f).setCell ⟨g, 6, none⟩ v
theorem layR_only (w : World) (g : Nat) (a b c d e f v : Value) : Only g w (layR w g a b c d e f v) :=
  ((((((Only.set g 0 a w).trans (Only.set g 1 b _)).trans (Only.set g 2 c _)).trans (Only.set g 3 d _)).trans (Only.set g 4 e _)).trans (Only.set g 5 f _)).trans (Only.set g 6 v _)
theorem layR_row {w : World} {g : Nat} {t : TypeId} {a b c d e f v a0 b0 c0 d0 e0 f0 v0 : Value} (h : w.heap[g]? = some (.cells #[a0, b0, c0, d0, e0, f0, v0] t (0, 0))) : (layR w g a b c d e f v).heap[g]? = some (.cells #[a, b, c, d, e, f, v] t (0, 0)) := by
  have h1 : (w.setCell ⟨g, 0, none⟩ a).heap[g]? = some (.cells #[a, b0, c0, d0, e0, f0, v0] t (0, 0)) := by rw [heap_setCell_same w g 0 _ _ _ h]; rfl
  have h2 : ((w.setCell ⟨g, 0, none⟩ a).setCell ⟨g, 1, none⟩ b).heap[g]? = some (.cells #[a, b, c0, d0, e0, f0, v0] t (0, 0)) := by rw [heap_setCell_same _ g 1 _ _ _ h1]; rfl
  have h3 : (((w.setCell ⟨g, 0, none⟩ a).setCell ⟨g, 1, none⟩ b).setCell ⟨g, 2, none⟩ c).heap[g]? = some (.cells #[a, b, c, d0, e0, f0, v0] t (0, 0)) := by rw [heap_setCell_same _ g 2 _ _ _ h2]; rfl
  have h4 : ((((w.setCell ⟨g, 0, none⟩ a).setCell ⟨g, 1, none⟩ b).setCell ⟨g, 2, none⟩ c).setCell ⟨g, 3, none⟩ d).heap[g]? = some (.cells #[a, b, c, d, e0, f0, v0] t (0, 0)) := by rw [heap_setCell_same _ g 3 _ _ _ h3]; rfl
  have h5 : (((((w.setCell ⟨g, 0, none⟩ a).setCell ⟨g, 1, none⟩ b).setCell ⟨g, 2, none⟩ c).setCell ⟨g, 3, none⟩ d).setCell ⟨g, 4, none⟩ e).heap[g]? = some (.cells #[a, b, c, d, e, f0, v0] t (0, 0)) := by rw [heap_setCell_same _ g 4 _ _ _ h4]; rfl
  have h6 : ((((((w.setCell ⟨g, 0, none⟩ a).setCell ⟨g, 1, none⟩ b).setCell ⟨g, 2, none⟩ c).setCell ⟨g, 3, none⟩ d).setCell ⟨g, 4, none⟩ e).setCell ⟨g, 5, none⟩ f).heap[g]? = some (.cells #[a, b, c, d, e, f, v0] t (0, 0)) := by rw [heap_setCell_same _ g 5 _ _ _ h5]; rfl
  unfold layR
  rw [heap_setCell_same _ g 6 _ _ _ h6]
  rfl
theorem seven {w : World} {g : Nat} {t : TypeId} {a b c d e f v : Value} (h : w.heap[g]? = some (.cells #[a, b, c, d, e, f, v] t (0, 0))) :
    w.cell? ⟨g, 0, none⟩ = some a ∧ w.cell? ⟨g, 1, none⟩ = some b ∧ w.cell? ⟨g, 2, none⟩ = some c ∧ w.cell? ⟨g, 3, none⟩ = some d ∧ w.cell? ⟨g, 4, none⟩ = some e ∧ w.cell? ⟨g, 5, none⟩ = some f ∧ w.cell? ⟨g, 6, none⟩ = some v :=
  ⟨cell_of_row _ _ 0 _ _ _ h, cell_of_row _ _ 1 _ _ _ h, cell_of_row _ _ 2 _ _ _ h, cell_of_row _ _ 3 _ _ _ h, cell_of_row _ _ 4 _ _ _ h, cell_of_row _ _ 5 _ _ _ h, cell_of_row _ _ 6 _ _ _ h⟩
theorem sevenF {w : World} {g : Nat} {t : TypeId} {cs : Array Value} (h : w.heap[g]? = some (.cells cs t (0, 0))) :
    w.frozen? ⟨g, 0, none⟩ = false ∧ w.frozen? ⟨g, 1, none⟩ = false ∧ w.frozen? ⟨g, 2, none⟩ = false ∧ w.frozen? ⟨g, 3, none⟩ = false ∧ w.frozen? ⟨g, 4, none⟩ = false ∧ w.frozen? ⟨g, 5, none⟩ = false ∧ w.frozen? ⟨g, 6, none⟩ = false :=
  ⟨frozen_of_row _ _ 0 _ _ h, frozen_of_row _ _ 1 _ _ h, frozen_of_row _ _ 2 _ _ h, frozen_of_row _ _ 3 _ _ h, frozen_of_row _ _ 4 _ _ h, frozen_of_row _ _ 5 _ _ h, frozen_of_row _ _ 6 _ _ h⟩
/-- A root under way: the reader, where it stands, the root's box, the answer's box. -/
structure Xb (w wr : World) (B R K : Nat) (l : List Int) (e : Int) (cs : Array Value) : Prop where
  rd : RdAt wr B l e
  ptr : wr.cell? ⟨R, 0, none⟩ = some (.pointer (some ⟨B, 0, none⟩))
  box : wr.heap[K]? = some (.cells cs 26 (0, 0))
  res : wr.heap[w.heap.size]? = some (.cells #[.int .i64 0, .int .i64 0, .int .i64 0, .int .i64 0, .int .i64 0, .int .i64 0, .slice none 0 0] 26 (0, 0))
  low : Below w.heap.size w wr
  hB : w.heap.size < B
  hR : B < R
  hK : R < K
theorem Xb.go {w wr w1 : World} {B R K : Nat} {l l' : List Int} {e e' : Int} {cs : Array Value} (h : Xb w wr B R K l e cs) (t : Tg B wr w1) (r : RdAt w1 B l' e') : Xb w w1 B R K l' e' cs := by
  have hB := h.hB
  have hR := h.hR
  have hK := h.hK
  exact ⟨r, t.cell h.ptr (by omega), by rw [t.block K (hlt h.box) (by omega)]; exact h.box, by rw [t.block _ (hlt h.res) (by omega)]; exact h.res, h.low.trans (t.below (by omega) (Nat.le_of_lt (hlt h.res))), hB, hR, hK⟩
theorem Xb.put {w wr : World} {B R K : Nat} {l : List Int} {e : Int} {cs cs' : Array Value} (h : Xb w wr B R K l e cs) (j : Nat) (v : Value) (he : cs.setIfInBounds j v = cs') : Xb w (wr.setCell ⟨K, j, none⟩ v) B R K l e cs' := by
  have on := Only.set K j v wr
  have hB := h.hB
  have hR := h.hR
  have hK := h.hK
  refine ⟨h.rd.tg (Tg.ofOnly on) (by omega), ?_, by rw [heap_setCell_same wr K j _ _ _ h.box, he], by rw [on.block _ (by omega)]; exact h.res, h.low.trans (on.below (by omega)), hB, hR, hK⟩
  rw [cell_far _ _ _ _ _ _ (by omega)]
  exact h.ptr
/-- What Read leaves behind. -/
def RdPost (w : World) (l : List Int) (s : Int) (e : Ending) (w' : World) : Prop :=
  ∃ a c, e = .returned (.tuple #[.agg #[.int .i64 (readR l s).1.b, .int .i64 (readR l s).1.p, .int .i64 (readR l s).1.w, .int .i64 (readR l s).1.h, .int .i64 (readR l s).1.r, .int .i64 (readR l s).1.k, .slice a (readR l s).1.es.length c], .int .i64 (readR l s).2]) ∧ Ow w' w.heap.size a (readR l s).1.es c ∧ Below w.heap.size w w'
theorem num_at {lo hi n e0 e1 : Int} {l r : List Int} (h : AllB l) (hh : 0 ≤ hi) (q : numR lo hi l e0 = (n, r, e1)) : AllB r ∧ 0 ≤ n ∧ n ≤ hi := by
  have h1 := (num_byte (lo := lo) (hi := hi) (e := e0) h).1
  have h2 := num_in (lo := lo) (hi := hi) (e := e0) h
  rw [q] at h1 h2
  have e : mxz hi = hi := if_neg (by omega)
  rw [e] at h2
  exact ⟨h1, h2⟩
theorem read_boxes (w : World) (u : Value) (t : TypeId) (cs : Array Value) (t2 : TypeId) : ∃ E, (w.alloc (.cells #[u] t)).alloc (.cells cs t2) = E ∧ E.heap[w.heap.size]? = some (.cells #[u] t (0, 0)) ∧ E.heap[w.heap.size + 1]? = some (.cells cs t2 (0, 0)) ∧ Below w.heap.size w E := by
  refine ⟨_, rfl, ?_, ?_, (below_alloc w _).alloc (by simp) _⟩
  · rw [(below_alloc _ _).block _ (by simp)]
    exact Go.heap_alloc_new w _
  · have := Go.heap_alloc_new (w.alloc (.cells #[u] t)) (.cells cs t2)
    rw [show (w.alloc (.cells #[u] t)).heap.size = w.heap.size + 1 by simp] at this
    exact this
set_option maxRecDepth 20000 in
set_option maxHeartbeats 16000000 in
/-- Read. -/
theorem cread_any (a : Option Addr) (cap : Nat) (l : List Int) (s : Int) (w : World) (hI : IsB w a l) (hm : l.length ≤ 140737488355328) (ha : a = none → l = []) (hs : s ≤ 9223372036854775807) :
    Calls Try.prog 17 #[.slice a l.length cap, .int .i64 s] w (RdPost w l s) := by
  have HI : Hid (IsB w a l) := hI
  have HA : Hid (a = none → l = []) := ha
  obtain ⟨xb, l1, e1, q1⟩ : ∃ a b c, numR 1 4294967296 l 0 = (a, b, c) := ⟨_, _, _, rfl⟩
  obtain ⟨p, l2, e2, q2⟩ : ∃ a b c, numR 1 4096 l1 e1 = (a, b, c) := ⟨_, _, _, rfl⟩
  obtain ⟨xw, l3, e3, q3⟩ : ∃ a b c, numR 1 8 l2 e2 = (a, b, c) := ⟨_, _, _, rfl⟩
  obtain ⟨xh, l4, e4, q4⟩ : ∃ a b c, numR 1 4096 l3 e3 = (a, b, c) := ⟨_, _, _, rfl⟩
  obtain ⟨r, l5, e5, q5⟩ : ∃ a b c, numR 0 xh l4 e4 = (a, b, c) := ⟨_, _, _, rfl⟩
  obtain ⟨k, l6, e6, q6⟩ : ∃ a b c, numR 0 64 l5 e5 = (a, b, c) := ⟨_, _, _, rfl⟩
  obtain ⟨n, l7, e7, q7⟩ : ∃ a b c, numR 0 p l6 e6 = (a, b, c) := ⟨_, _, _, rfl⟩
  obtain ⟨es, l8, e8, q8⟩ : ∃ a b c, goE p s (listE k r (List.replicate n.toNat 0)) 0 l7 e7 [] = (a, b, c) := ⟨_, _, _, rfl⟩
  obtain ⟨E, hE⟩ : ∃ E, endV l8 e8 = E := ⟨_, rfl⟩
  have RR : Hid (readR l s = if E = 0 then (⟨256 * xb, p, xw, xh, r, k, es⟩, 0) else (rtz, E)) := read_of (hd_of q1 q2 q3 q4 q5 q6 q7) q8 hE
  obtain ⟨a1, b10, b11⟩ := num_at HI.out.1 (by omega) q1
  obtain ⟨a2, p0, p1⟩ := num_at a1 (by omega) q2
  obtain ⟨a3, w0, w1⟩ := num_at a2 (by omega) q3
  obtain ⟨a4, h0, h1⟩ := num_at a3 (by omega) q4
  obtain ⟨a5, r0, r1⟩ := num_at a4 h0 q5
  obtain ⟨a6, k0, k1⟩ := num_at a5 (by omega) q6
  have Q1 : Hid (numR 1 4294967296 l 0 = (xb, l1, e1)) := q1
  have Q2 : Hid (numR 1 4096 l1 e1 = (p, l2, e2)) := q2
  have Q3 : Hid (numR 1 8 l2 e2 = (xw, l3, e3)) := q3
  have Q4 : Hid (numR 1 4096 l3 e3 = (xh, l4, e4)) := q4
  have Q5 : Hid (numR 0 xh l4 e4 = (r, l5, e5)) := q5
  have Q6 : Hid (numR 0 64 l5 e5 = (k, l6, e6)) := q6
  have Q7 : Hid (numR 0 p l6 e6 = (n, l7, e7)) := q7
  have Q8 : Hid (goE p s (listE k r (List.replicate n.toNat 0)) 0 l7 e7 [] = (es, l8, e8)) := q8
  have HE : Hid (endV l8 e8 = E) := hE
  have wb : IntKind.i64.wrap (xb * 256) = 256 * xb := by rw [IntKind.wrap_i64]; omega
  obtain ⟨b, hb⟩ : ∃ b, 256 * xb = b := ⟨_, rfl⟩
  rw [hb] at RR wb
  obtain ⟨D, hD⟩ : ∃ D, w.alloc (.cells #[.int .i64 0, .int .i64 0, .int .i64 0, .int .i64 0, .int .i64 0, .int .i64 0, .slice none 0 0] 26) = D := ⟨_, rfl⟩
  have rD : D.heap[w.heap.size]? = some (.cells #[.int .i64 0, .int .i64 0, .int .i64 0, .int .i64 0, .int .i64 0, .int .i64 0, .slice none 0 0] 26 (0, 0)) := by rw [← hD]; exact Go.heap_alloc_new w _
  have HD : Hid (w.alloc (.cells #[.int .i64 0, .int .i64 0, .int .i64 0, .int .i64 0, .int .i64 0, .int .i64 0, .slice none 0 0] 26) = D) := hD
  have RD : Hid _ := rD
  have BD : Hid (Below w.heap.size w D) := by show Below _ _ _; rw [← hD]; exact below_alloc _ _
  clear hI ha q1 q2 q3 q4 q5 q6 q7 q8 hE hb hD rD a1 a2 a3 a4 a5 a6 b10 b11 w0 w1
  go_enter Try.func17, Try.ntmps17
  go_upto_region 1 with (fail)
  rw [HD.out]
  go_wp2_with fail
  refine (open_any a cap l _ (HI.out.keep BD.out) hm HA.out).mono ?_
  rintro e9 w1 ⟨B, rfl, hB1, hB2, r1', b1⟩
  obtain ⟨G, hG, rG, xG, bG⟩ := read_boxes w1 (.pointer (some ⟨B, 0, none⟩)) 64 #[.int .i64 0, .int .i64 0, .int .i64 0, .int .i64 0, .int .i64 0, .int .i64 0, .slice none 0 0] 26
  obtain ⟨R, hR⟩ : ∃ R, w1.heap.size = R := ⟨_, rfl⟩
  rw [hR] at rG xG hB2
  have HG : Hid ((w1.alloc (.cells #[.pointer (some ⟨B, 0, none⟩)] 64)).alloc (.cells #[.int .i64 0, .int .i64 0, .int .i64 0, .int .i64 0, .int .i64 0, .int .i64 0, .slice none 0 0] 26) = G) := hG
  have HR : Hid (w1.heap.size = R) := hR
  obtain ⟨K, hK⟩ : ∃ K, R + 1 = K := ⟨_, rfl⟩
  have HK : Hid (R + 1 = K) := hK
  rw [hK] at xG
  have zB : w.heap.size < B := by have := hlt RD.out; omega
  have S1 : Hid (Xb w G B R K l 0 #[.int .i64 0, .int .i64 0, .int .i64 0, .int .i64 0, .int .i64 0, .int .i64 0, .slice none 0 0]) :=
    ⟨rd_keep r1' bG, cell_of_row _ _ 0 _ _ _ rG, xG, by rw [bG.block _ (Nat.lt_of_lt_of_le (hlt RD.out) b1.size), b1.block _ (hlt RD.out)]; exact RD.out, (BD.out.trans (b1.mono BD.out.size)).trans (bG.mono (Nat.le_trans BD.out.size b1.size)), zB, hB2, by omega⟩
  have RB : R ≠ B := by omega
  clear hG rG xG bG hR hK r1' b1 hB1 hB2 zB
  go_upto_region 4 with (fail)
  rw [HG.out]
  try rw [HR.out]
  try rw [HK.out]
  go_wp2_with fail
  refine (number_any 1 4294967296 B R l 0 xb l1 e1 _ S1.out.rd S1.out.ptr RB (by omega) Q1.out).mono ?_
  rintro e9 v1 ⟨rfl, rr, tt⟩
  have T1 : Hid (Xb w v1 B R K l1 e1 #[.int .i64 0, .int .i64 0, .int .i64 0, .int .i64 0, .int .i64 0, .int .i64 0, .slice none 0 0]) := S1.out.go tt rr
  have x0 := cell_of_row _ _ 0 _ _ _ T1.out.box
  have z0 := frozen_of_row _ _ 0 _ _ T1.out.box
  have S2 : Hid (Xb w (v1.setCell ⟨K, 0, none⟩ (.int .i64 b)) B R K l1 e1 #[.int .i64 b, .int .i64 0, .int .i64 0, .int .i64 0, .int .i64 0, .int .i64 0, .slice none 0 0]) := T1.out.put 0 _ rfl
  obtain ⟨W1, hW1⟩ : ∃ W1, v1.setCell ⟨K, 0, none⟩ (.int .i64 b) = W1 := ⟨_, rfl⟩
  have HW1 : Hid _ := hW1
  rw [hW1] at S2
  clear rr tt hW1 S1
  go_upto_region 5 with (fail)
  rw [HW1.out]
  clear x0 z0 T1 HW1
  go_wp2_with fail
  refine (number_any 1 4096 B R l1 e1 p l2 e2 _ S2.out.rd S2.out.ptr RB (by omega) Q2.out).mono ?_
  rintro e9 v2 ⟨rfl, rr, tt⟩
  have T2 : Hid (Xb w v2 B R K l2 e2 #[.int .i64 b, .int .i64 0, .int .i64 0, .int .i64 0, .int .i64 0, .int .i64 0, .slice none 0 0]) := S2.out.go tt rr
  have x1 := cell_of_row _ _ 1 _ _ _ T2.out.box
  have z1 := frozen_of_row _ _ 1 _ _ T2.out.box
  have S3 : Hid (Xb w (v2.setCell ⟨K, 1, none⟩ (.int .i64 p)) B R K l2 e2 #[.int .i64 b, .int .i64 p, .int .i64 0, .int .i64 0, .int .i64 0, .int .i64 0, .slice none 0 0]) := T2.out.put 1 _ rfl
  obtain ⟨W2, hW2⟩ : ∃ W2, v2.setCell ⟨K, 1, none⟩ (.int .i64 p) = W2 := ⟨_, rfl⟩
  have HW2 : Hid _ := hW2
  rw [hW2] at S3
  clear rr tt hW2 S2
  go_upto_region 6 with (fail)
  rw [HW2.out]
  clear x1 z1 T2 HW2
  go_wp2_with fail
  refine (number_any 1 8 B R l2 e2 xw l3 e3 _ S3.out.rd S3.out.ptr RB (by omega) Q3.out).mono ?_
  rintro e9 v3 ⟨rfl, rr, tt⟩
  have T3 : Hid (Xb w v3 B R K l3 e3 #[.int .i64 b, .int .i64 p, .int .i64 0, .int .i64 0, .int .i64 0, .int .i64 0, .slice none 0 0]) := S3.out.go tt rr
  have x2 := cell_of_row _ _ 2 _ _ _ T3.out.box
  have z2 := frozen_of_row _ _ 2 _ _ T3.out.box
  have S4 : Hid (Xb w (v3.setCell ⟨K, 2, none⟩ (.int .i64 xw)) B R K l3 e3 #[.int .i64 b, .int .i64 p, .int .i64 xw, .int .i64 0, .int .i64 0, .int .i64 0, .slice none 0 0]) := T3.out.put 2 _ rfl
  obtain ⟨W3, hW3⟩ : ∃ W3, v3.setCell ⟨K, 2, none⟩ (.int .i64 xw) = W3 := ⟨_, rfl⟩
  have HW3 : Hid _ := hW3
  rw [hW3] at S4
  clear rr tt hW3 S3
  go_upto_region 7 with (fail)
  rw [HW3.out]
  clear x2 z2 T3 HW3
  go_wp2_with fail
  refine (number_any 1 4096 B R l3 e3 xh l4 e4 _ S4.out.rd S4.out.ptr RB (by omega) Q4.out).mono ?_
  rintro e9 v4 ⟨rfl, rr, tt⟩
  have T4 : Hid (Xb w v4 B R K l4 e4 #[.int .i64 b, .int .i64 p, .int .i64 xw, .int .i64 0, .int .i64 0, .int .i64 0, .slice none 0 0]) := S4.out.go tt rr
  have x3 := cell_of_row _ _ 3 _ _ _ T4.out.box
  have z3 := frozen_of_row _ _ 3 _ _ T4.out.box
  have S5 : Hid (Xb w (v4.setCell ⟨K, 3, none⟩ (.int .i64 xh)) B R K l4 e4 #[.int .i64 b, .int .i64 p, .int .i64 xw, .int .i64 xh, .int .i64 0, .int .i64 0, .slice none 0 0]) := T4.out.put 3 _ rfl
  obtain ⟨W4, hW4⟩ : ∃ W4, v4.setCell ⟨K, 3, none⟩ (.int .i64 xh) = W4 := ⟨_, rfl⟩
  have HW4 : Hid _ := hW4
  rw [hW4] at S5
  clear rr tt hW4 S4
  go_upto_region 8 with (fail)
  rw [HW4.out]
  clear x3 z3 T4 HW4
  obtain ⟨c0, c1, c2, c3, c4, c5, c6⟩ := seven S5.out.box
  go_wp2_with fail
  refine (number_any 0 xh B R l4 e4 r l5 e5 _ S5.out.rd S5.out.ptr RB (by omega) Q5.out).mono ?_
  rintro e9 v5 ⟨rfl, rr, tt⟩
  have T5 : Hid (Xb w v5 B R K l5 e5 #[.int .i64 b, .int .i64 p, .int .i64 xw, .int .i64 xh, .int .i64 0, .int .i64 0, .slice none 0 0]) := S5.out.go tt rr
  have x4 := cell_of_row _ _ 4 _ _ _ T5.out.box
  have z4 := frozen_of_row _ _ 4 _ _ T5.out.box
  have S6 : Hid (Xb w (v5.setCell ⟨K, 4, none⟩ (.int .i64 r)) B R K l5 e5 #[.int .i64 b, .int .i64 p, .int .i64 xw, .int .i64 xh, .int .i64 r, .int .i64 0, .slice none 0 0]) := T5.out.put 4 _ rfl
  obtain ⟨W5, hW5⟩ : ∃ W5, v5.setCell ⟨K, 4, none⟩ (.int .i64 r) = W5 := ⟨_, rfl⟩
  have HW5 : Hid _ := hW5
  rw [hW5] at S6
  clear rr tt hW5 S5 c0 c1 c2 c3 c4 c5 c6
  go_upto_region 9 with (fail)
  rw [HW5.out]
  clear x4 z4 T5 HW5
  go_wp2_with fail
  refine (number_any 0 64 B R l5 e5 k l6 e6 _ S6.out.rd S6.out.ptr RB (by omega) Q6.out).mono ?_
  rintro e9 v6 ⟨rfl, rr, tt⟩
  have T6 : Hid (Xb w v6 B R K l6 e6 #[.int .i64 b, .int .i64 p, .int .i64 xw, .int .i64 xh, .int .i64 r, .int .i64 0, .slice none 0 0]) := S6.out.go tt rr
  have x5 := cell_of_row _ _ 5 _ _ _ T6.out.box
  have z5 := frozen_of_row _ _ 5 _ _ T6.out.box
  have S7 : Hid (Xb w (v6.setCell ⟨K, 5, none⟩ (.int .i64 k)) B R K l6 e6 #[.int .i64 b, .int .i64 p, .int .i64 xw, .int .i64 xh, .int .i64 r, .int .i64 k, .slice none 0 0]) := T6.out.put 5 _ rfl
  obtain ⟨W6, hW6⟩ : ∃ W6, v6.setCell ⟨K, 5, none⟩ (.int .i64 k) = W6 := ⟨_, rfl⟩
  have HW6 : Hid _ := hW6
  rw [hW6] at S7
  clear rr tt hW6 S6
  go_upto_region 10 with (fail)
  rw [HW6.out]
  clear x5 z5 T6 HW6
  obtain ⟨c0, c1, c2, c3, c4, c5, c6⟩ := seven S7.out.box
  have r4096 : r ≤ 4096 := by omega
  have RE : Hid (Calls Try.prog 37 #[.agg #[.int .i64 b, .int .i64 p, .int .i64 xw, .int .i64 xh, .int .i64 r, .int .i64 k, .slice none 0 0], .int .i64 s, .func (.func 34) #[] #[.pointer (some ⟨R, 0, none⟩)]] W6 fun e w' => ∃ a c, e = .returned (.slice a es.length c) ∧ Ow w' W6.heap.size a es c ∧ RdAt w' B l8 e8 ∧ Tg B W6 w') :=
    readE_any ⟨b, p, xw, xh, r, k, []⟩ (.slice none 0 0) B R s l6 e6 n l7 e7 es l8 e8 W6 S7.out.rd S7.out.ptr RB hs ⟨p0, p1⟩ ⟨r0, r4096⟩ ⟨k0, k1⟩ Q7.out Q8.out
  go_wp2_with fail
  refine Calls.mono RE.out ?_
  rintro e9 v7 ⟨ae, ce, rfl, oe, rr, tt⟩
  have T7 : Hid (Xb w v7 B R K l8 e8 #[.int .i64 b, .int .i64 p, .int .i64 xw, .int .i64 xh, .int .i64 r, .int .i64 k, .slice none 0 0]) := S7.out.go tt rr
  have OE : Hid (Ow v7 w.heap.size ae es ce) := oe.mono S7.out.low.size
  have GE : Hid (∀ g, ob ae = some g → K < g) := fun g hg => by have := (oe.ge g hg).1; have := hlt S7.out.box; omega
  have x6 := cell_of_row _ _ 6 _ _ _ T7.out.box
  have z6 := frozen_of_row _ _ 6 _ _ T7.out.box
  have S8 : Hid (Xb w (v7.setCell ⟨K, 6, none⟩ (.slice ae es.length ce)) B R K l8 e8 #[.int .i64 b, .int .i64 p, .int .i64 xw, .int .i64 xh, .int .i64 r, .int .i64 k, .slice ae es.length ce]) := T7.out.put 6 _ rfl
  have O8 : Hid (Ow (v7.setCell ⟨K, 6, none⟩ (.slice ae es.length ce)) w.heap.size ae es ce) := OE.out.same (fun g o hg ho => by rw [(Only.set K 6 (.slice ae es.length ce) v7).block g (by have := GE.out g hg; omega)]; exact ho)
  obtain ⟨LE, hLE⟩ : ∃ LE, es.length = LE := ⟨_, rfl⟩
  rw [hLE] at S8 O8 ⊢
  have HLE : Hid (es.length = LE) := hLE
  obtain ⟨W7, hW7⟩ : ∃ W7, v7.setCell ⟨K, 6, none⟩ (.slice ae LE ce) = W7 := ⟨_, rfl⟩
  have HW7 : Hid _ := hW7
  rw [hW7] at S8 O8
  clear rr tt oe hW7 hLE S7 c0 c1 c2 c3 c4 c5 c6
  go_upto_region 11 with (fail)
  rw [HW7.out]
  clear x6 z6 T7 HW7
  have u0 := S8.out.ptr
  go_wp2_with fail
  refine (end_any B l8 e8 _ S8.out.rd).mono ?_
  rw [HE.out]
  rintro e9 w' ⟨rfl, rfl⟩
  obtain ⟨y0, y1, y2, y3, y4, y5, y6⟩ := seven S8.out.res
  obtain ⟨z0, z1, z2, z3, z4, z5, z6⟩ := sevenF S8.out.res
  by_cases h0' : E = 0
  · have RV : readR l s = (⟨b, p, xw, xh, r, k, es⟩, 0) := by rw [RR.out, if_pos h0']
    subst h0'
    obtain ⟨c0, c1, c2, c3, c4, c5, c6⟩ := seven S8.out.box
    obtain ⟨LW, hLW⟩ : ∃ LW, layR W7 w.heap.size (.int .i64 b) (.int .i64 p) (.int .i64 xw) (.int .i64 xh) (.int .i64 r) (.int .i64 k) (.slice ae LE ce) = LW := ⟨_, rfl⟩
    have on : Only w.heap.size W7 LW := by rw [← hLW]; exact layR_only _ _ _ _ _ _ _ _ _
    obtain ⟨g0, g1, g2, g3, g4, g5, g6⟩ := seven (by have := layR_row (a := .int .i64 b) (b := .int .i64 p) (c := .int .i64 xw) (d := .int .i64 xh) (e := .int .i64 r) (f := .int .i64 k) (v := .slice ae LE ce) S8.out.res; rw [hLW] at this; exact this)
    have FIN : Hid (RdPost w l s (.returned (.tuple #[.agg #[.int .i64 b, .int .i64 p, .int .i64 xw, .int .i64 xh, .int .i64 r, .int .i64 k, .slice ae LE ce], .int .i64 0])) LW) := by
      show RdPost _ _ _ _ _
      unfold RdPost
      rw [RV]
      simp only
      refine ⟨ae, ce, by rw [HLE.out], O8.out.same (fun g o hg ho => by rw [on.block g (by have := GE.out g hg; have := S8.out.hB; have := S8.out.hR; have := S8.out.hK; omega)]; exact ho), S8.out.low.trans (on.below (Nat.le_refl _))⟩
    have LV : Hid (((((((W7.setCell ⟨w.heap.size, 0, none⟩ (.int .i64 b)).setCell ⟨w.heap.size, 1, none⟩ (.int .i64 p)).setCell ⟨w.heap.size, 2, none⟩ (.int .i64 xw)).setCell ⟨w.heap.size, 3, none⟩ (.int .i64 xh)).setCell ⟨w.heap.size, 4, none⟩ (.int .i64 r)).setCell ⟨w.heap.size, 5, none⟩ (.int .i64 k)).setCell ⟨w.heap.size, 6, none⟩ (.slice ae LE ce) = LW) := by
      show _ = _
      unfold layR at hLW
      exact hLW
    clear hLW on RV
    go_wp2
    rw [LV.out]
    refine bodyPost_ret (v := .tuple #[.agg #[.int .i64 b, .int .i64 p, .int .i64 xw, .int .i64 xh, .int .i64 r, .int .i64 k, .slice ae LE ce], .int .i64 0]) (by simp [results, Try.results17, go_sem, g0, g1, g2, g3, g4, g5, g6]) rfl FIN.out
  · have RV : readR l s = (rtz, E) := by rw [RR.out, if_neg h0']
    have eb : (E != 0) = true := by rw [bne_iff_ne]; exact h0'
    obtain ⟨LW, hLW⟩ : ∃ LW, layR W7 w.heap.size (.int .i64 0) (.int .i64 0) (.int .i64 0) (.int .i64 0) (.int .i64 0) (.int .i64 0) (.slice none 0 0) = LW := ⟨_, rfl⟩
    have on : Only w.heap.size W7 LW := by rw [← hLW]; exact layR_only _ _ _ _ _ _ _ _ _
    obtain ⟨g0, g1, g2, g3, g4, g5, g6⟩ := seven (by have := layR_row (a := .int .i64 0) (b := .int .i64 0) (c := .int .i64 0) (d := .int .i64 0) (e := .int .i64 0) (f := .int .i64 0) (v := .slice none 0 0) S8.out.res; rw [hLW] at this; exact this)
    have FIN : Hid (RdPost w l s (.returned (.tuple #[.agg #[.int .i64 0, .int .i64 0, .int .i64 0, .int .i64 0, .int .i64 0, .int .i64 0, .slice none 0 0], .int .i64 E])) LW) := by
      show RdPost _ _ _ _ _
      unfold RdPost
      rw [RV]
      exact ⟨none, 0, rfl, Ow.nil _ _, S8.out.low.trans (on.below (Nat.le_refl _))⟩
    have LV : Hid (((((((W7.setCell ⟨w.heap.size, 0, none⟩ (.int .i64 0)).setCell ⟨w.heap.size, 1, none⟩ (.int .i64 0)).setCell ⟨w.heap.size, 2, none⟩ (.int .i64 0)).setCell ⟨w.heap.size, 3, none⟩ (.int .i64 0)).setCell ⟨w.heap.size, 4, none⟩ (.int .i64 0)).setCell ⟨w.heap.size, 5, none⟩ (.int .i64 0)).setCell ⟨w.heap.size, 6, none⟩ (.slice none 0 0) = LW) := by
      show _ = _
      unfold layR at hLW
      exact hLW
    clear hLW on RV
    go_wp2
    rw [LV.out]
    refine bodyPost_ret (v := .tuple #[.agg #[.int .i64 0, .int .i64 0, .int .i64 0, .int .i64 0, .int .i64 0, .int .i64 0, .slice none 0 0], .int .i64 E]) (by simp [results, Try.results17, go_sem, g0, g1, g2, g3, g4, g5, g6]) rfl FIN.out
end Go.Proofs.Ytgpkiajakokjmaa
