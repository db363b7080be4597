/- Layer 21: the next checkpoint's number and slot. -/
import Derived.Test.YtofmicbhheebiaaDoorMnW
import Derived.Test.YtofmicbhheebiaaDoorMnQ
import Derived.BigQuiet
namespace Go.Proofs.YtofmicbhheebiaaDoor
open Go.RowKit
set_option linter.unusedVariables false
set_option maxRecDepth 4000

/-- The greatest number. -/
def topM (l : List Fd) : Int := lastM (l.map (fun x => x.m.s))
theorem lastM_nonneg : ∀ l : List Int, 0 ≤ lastM l
  | [] => Int.le_refl _
  | s :: l => by have := lastM_nonneg l; show 0 ≤ max s (lastM l); omega
theorem lastM_append : ∀ a b : List Int, lastM (a ++ b) = max (lastM a) (lastM b)
  | [], b => by have := lastM_nonneg b; show lastM b = max 0 (lastM b); omega
  | s :: a, b => by show max s (lastM (a ++ b)) = max (max s (lastM a)) (lastM b); rw [lastM_append a b]; omega
theorem topM_snoc (l : List Fd) (x : Fd) : topM (l ++ [x]) = max (topM l) (max x.m.s 0) := by
  unfold topM
  rw [List.map_append, lastM_append]
  rfl
theorem topM_nonneg (l : List Fd) : 0 ≤ topM l := lastM_nonneg _
theorem topM_take {l : List Fd} {j : Nat} (hj : j < l.length) : topM (l.take (j + 1)) = max (topM (l.take j)) (max (rwD l j).m.s 0) := by
  rw [List.take_succ_eq_append_getElem hj, topM_snoc, rwD_at hj]
theorem topM_le {l : List Fd} {n : Int} (h0 : 0 ≤ n) (h : ∀ x ∈ l, x.m.s ≤ n) : topM l ≤ n := by
  induction l with
  | nil => exact h0
  | cons y l ih =>
    show max y.m.s (topM l) ≤ n
    have := h y (List.mem_cons_self ..)
    have := ih (fun x hx => h x (List.mem_cons_of_mem _ hx))
    omega
def nxS (t : Int) : Int := if 4294967295 ≤ t then 0 else t + 1
def nxL (t u : Int) : Int := if 4294967295 ≤ t then 0 else if u = 0 then 1 else 0
def nxE (t : Int) : Int := if 4294967295 ≤ t then 7 else 0

/-- Four cells of a block. -/
def lay4F (w : World) (g : Nat) (a b c d : Value) : World := (((w.setCell ⟨g, 0, none⟩ a).setCell ⟨g, 1, none⟩ b).setCell ⟨g, 2, none⟩ c).setCell ⟨g, 3, none⟩ d
theorem lay4F_only (w : World) (g : Nat) (a b c d : Value) : Only g w (lay4F w g a b c d) := (((Only.set g 0 a w).trans (Only.set g 1 b _)).trans (Only.set g 2 c _)).trans (Only.set g 3 d _)
theorem lay4F_row {w : World} {g : Nat} {t : TypeId} {a b c d a0 b0 c0 d0 : Value} (h : w.heap[g]? = some (.cells #[a0, b0, c0, d0] t (0, 0))) : (lay4F w g a b c d).heap[g]? = some (.cells #[a, b, c, d] t (0, 0)) := by
  unfold lay4F
  have h1 := heap_setCell_same w g 0 _ _ a h
  have h2 := heap_setCell_same _ g 1 _ _ b h1
  have h3 := heap_setCell_same _ g 2 _ _ c h2
  exact heap_setCell_same _ g 3 _ _ d h3
theorem fourF21 {w : World} {b : Nat} {cs : Array Value} {T : TypeId} (h : w.heap[b]? = some (.cells cs T (0, 0))) : w.frozen? ⟨b, 0, none⟩ = false ∧ w.frozen? ⟨b, 1, none⟩ = false ∧ w.frozen? ⟨b, 2, none⟩ = false ∧ w.frozen? ⟨b, 3, none⟩ = false :=
  ⟨frozen_of_row _ _ 0 _ _ h, frozen_of_row _ _ 1 _ _ h, frozen_of_row _ _ 2 _ _ h, frozen_of_row _ _ 3 _ _ h⟩
/-- The greatest one so far, in its box. -/
structure Mx (w : World) (wr : World) (Z : Nat) (y : Fd) (t : Int) : Prop where
  box : wr.heap[Z]? = some (.cells y.cs 50 (0, 0))
  res : wr.heap[w.heap.size]? = some (.cells #[.int .i64 0, .int .i64 0, .int .i64 0, .int .i64 0] 50 (0, 0))
  top : y.m.s = t
  low : Below w.heap.size w wr
theorem Mx.keep {w wr w' : World} {Z : Nat} {y : Fd} {t : Int} (h : Mx w wr Z y t) (b : Below wr.heap.size wr w') : Mx w w' Z y t :=
  ⟨by rw [b.block _ (Array.getElem?_eq_some_iff.1 h.box).1]; exact h.box, by rw [b.block _ (Array.getElem?_eq_some_iff.1 h.res).1]; exact h.res, h.top, h.low.trans (b.mono h.low.size)⟩
theorem Mx.lay {w wr : World} {Z : Nat} {y : Fd} {t : Int} (h : Mx w wr Z y t) (hz : w.heap.size < Z) (x : Fd) : Mx w (lay4F wr Z (.int .i64 x.l) (.int .i64 x.m.s) (.int .i64 x.m.f) (.int .i64 x.m.n)) Z x x.m.s := by
  have o := lay4F_only wr Z (.int .i64 x.l) (.int .i64 x.m.s) (.int .i64 x.m.f) (.int .i64 x.m.n)
  exact ⟨lay4F_row h.box, by rw [o.block _ (Nat.ne_of_lt hz)]; exact h.res, rfl, h.low.trans (o.below (Nat.le_of_lt hz))⟩
theorem cmpI_pos {a b : Int} (h : b < a) : cmpI a b = 1 := by rw [cmpI, if_neg (by omega), if_pos h]
theorem cmpI_le {a b : Int} (h : ¬ b < a) : cmpI a b ≤ 0 := by unfold cmpI; split <;> (try split) <;> omega

set_option maxRecDepth 20000 in
set_option maxHeartbeats 4000000 in
/-- One with the greatest number. -/
theorem maxF_any (a : Option Addr) (cap : Nat) (l : List Fd) (w : World) (hI : IsW w a l) (h0 : 0 < l.length) (hb : ∀ x ∈ l, 0 ≤ x.m.s) (hl : l.length ≤ 4398046511104) :
    Calls Tryd.prog 43 #[.slice a l.length cap, .func (.func 44) #[] #[]] w fun e w' => ∃ x : Fd, e = .returned x.v ∧ x.m.s = topM l ∧ Below w.heap.size w w' := by
  have HI : Hid (IsW w a l) := hI
  have HB : Hid (∀ x ∈ l, 0 ≤ x.m.s) := hb
  obtain ⟨N, hN⟩ : ∃ N, l.length = N := ⟨_, rfl⟩
  have HN : Hid (l.length = N) := hN
  rw [hN] at hl ⊢
  have n0 : 0 < N := by omega
  have i0 : (0 : Int) < (N : Int) := by omega
  have i1 : ¬ (N : Int) < 1 := by omega
  have T1 : Hid (topM (l.take 1) = (rwD l 0).m.s) := by
    show _ = _
    have e := topM_take (l := l) (j := 0) h0
    have z : topM (l.take 0) = 0 := by rw [List.take_zero]; rfl
    have q : 0 ≤ (rwD l 0).m.s := by rw [rwD_at h0]; exact hb _ (List.getElem_mem _)
    rw [z] at e
    rw [show (1 : Nat) = 0 + 1 from rfl, e]
    omega
  obtain ⟨D, hD, rD, bD, sD⟩ := boxF21 50 w ⟨0, ⟨0, 0, 0⟩⟩
  obtain ⟨gb, go, ea, c0, c1, c2, c3⟩ := (hI.keep bD).at 0 h0
  obtain ⟨⟨xl, xs, xf, xn⟩, hx⟩ : ∃ x, rwD l 0 = x := ⟨_, rfl⟩
  have HX : Hid (rwD l 0 = ⟨xl, ⟨xs, xf, xn⟩⟩) := hx
  rw [hx] at c0 c1 c2 c3
  simp only [Nat.zero_mul, Nat.add_zero] at c0 c1 c2 c3
  obtain ⟨E, hE, rE, bE, sE⟩ := boxF21 50 D ⟨xl, ⟨xs, xf, xn⟩⟩
  unfold Fd.cs at hD hE
  simp only at hD hE
  have HD : Hid _ := hD
  have HE : Hid _ := hE
  obtain ⟨Z, hZ⟩ : ∃ Z, D.heap.size = Z := ⟨_, rfl⟩
  have HZ : Hid (D.heap.size = Z) := hZ
  have wz : w.heap.size < Z := by omega
  have S0 : Hid (Mx w E Z ⟨xl, ⟨xs, xf, xn⟩⟩ (topM (l.take 1))) := by
    show Mx _ _ _ _ _
    refine ⟨by rw [← hZ]; exact rE, ?_, by rw [T1.out, hx], bD.trans (bE.mono (by omega))⟩
    rw [bE.block _ (by omega)]
    exact rD
  subst ea
  clear hI h0 hb hN hD rD bD sD hx hE rE bE sE hZ T1
  go_enter Tryd.func43, Tryd.ntmps43
  go_upto_region 1 with (fail)
  rw [HD.out]
  go_upto_region 4 with (fail)
  rw [HE.out]
  try rw [HZ.out]
  go_upto_region 5 with (fail)
  go_loopw [6] (fun iv wr => ∃ (j : Nat) (y : Fd), j ≤ N ∧ 1 ≤ j ∧ iv = .int .i64 (j : Nat) ∧ Mx w wr Z y (topM (l.take j))) (fun iv _ => N - (intOf iv).toNat)
  case atStart => exact ⟨1, _, by omega, by omega, rfl, S0.out⟩
  case round =>
    clear c0 c1 c2 c3
    obtain ⟨j, ⟨yl, ys, yf, yn⟩, hj, hj1, rfl, hM⟩ := hrel
    rename World => wr
    have HM : Hid (Mx w wr Z ⟨yl, ⟨ys, yf, yn⟩⟩ (topM (l.take j))) := hM
    obtain ⟨y0, y1, y2, y3⟩ := four21 hM.box
    by_cases hlt : j < N
    · have hlt2 : j < l.length := by rw [HN.out]; exact hlt
      obtain ⟨b', o', ea, c0, c1, c2, c3⟩ := (HI.out.keep hM.low).at j hlt2
      cases ea
      have E := topM_take hlt2
      have xp : 0 ≤ (rwD l j).m.s := by rw [rwD_at hlt2]; exact HB.out _ (List.getElem_mem _)
      obtain ⟨⟨ul, us, uf, un⟩, hu⟩ : ∃ x, rwD l j = x := ⟨_, rfl⟩
      rw [hu] at c0 c1 c2 c3 E xp
      simp only at c0 c1 c2 c3 E xp
      rw [← hM.top] at E
      simp only at E
      have ET : Hid (topM (l.take (j + 1)) = max ys (max us 0)) := E
      have BS : Hid (∀ w, Calls Tryd.prog 44 #[.agg #[.int .i64 ul, .int .i64 us, .int .i64 uf, .int .i64 un], .agg #[.int .i64 yl, .int .i64 ys, .int .i64 yf, .int .i64 yn]] w fun e w' => e = .returned (.int .i64 (cmpI us ys)) ∧ Below w.heap.size w w') := fun w => mbyseq_any ⟨ul, ⟨us, uf, un⟩⟩ ⟨yl, ⟨ys, yf, yn⟩⟩ w
      have BG : Hid (gb < wr.heap.size) := block_lt_of_cell c0
      have C : Hid (wr.cell? ⟨gb, go + j * 4, none⟩ = some (.int .i64 ul) ∧ wr.cell? ⟨gb, go + j * 4 + 1, none⟩ = some (.int .i64 us) ∧ wr.cell? ⟨gb, go + j * 4 + 2, none⟩ = some (.int .i64 uf) ∧ wr.cell? ⟨gb, go + j * 4 + 3, none⟩ = some (.int .i64 un)) := ⟨c0, c1, c2, c3⟩
      have jn : (j : Int) < (N : Int) := by omega
      have w1 : IntKind.i64.wrap ((j : Int) + 1) = ((j + 1 : Nat) : Int) := by rw [IntKind.wrap_i64]; omega
      by_cases hgt : ys < us
      · have cv := cmpI_pos hgt
        rw [cv] at BS
        clear cv hu E hM hlt2
        go_upto_region 7 with (fail)
        go_region_held3 (fun w' => w'.cell? ⟨Z, 0, none⟩ = some (.int .i64 yl) ∧ w'.cell? ⟨Z, 1, none⟩ = some (.int .i64 ys) ∧ w'.cell? ⟨Z, 2, none⟩ = some (.int .i64 yf) ∧ w'.cell? ⟨Z, 3, none⟩ = some (.int .i64 yn) ∧ w'.cell? ⟨gb, go + j * 4, none⟩ = some (.int .i64 ul) ∧ w'.cell? ⟨gb, go + j * 4 + 1, none⟩ = some (.int .i64 us) ∧ w'.cell? ⟨gb, go + j * 4 + 2, none⟩ = some (.int .i64 uf) ∧ w'.cell? ⟨gb, go + j * 4 + 3, none⟩ = some (.int .i64 un)) (first | exact ⟨y0, y1, y2, y3, c0, c1, c2, c3⟩ | go_keep)
          ((go_at_call 44; refine Calls.mono (BS.out _) ?_; rintro e w2 ⟨rfl, b2⟩; have B2 : Hid (Below wr.heap.size wr w2) := ofDrewM b2; have M2 : Hid (Mx w w2 Z ⟨yl, ⟨ys, yf, yn⟩⟩ (topM (l.take j))) := HM.out.keep B2.out; clear y0 y1 y2 y3 c0 c1 c2 c3 b2; obtain ⟨y0, y1, y2, y3⟩ := four21 M2.out.box; have c0 := (B2.out.cell (p := ⟨gb, go + j * 4, none⟩) BG.out).trans C.out.1; have c1 := (B2.out.cell (p := ⟨gb, go + j * 4 + 1, none⟩) BG.out).trans C.out.2.1; have c2 := (B2.out.cell (p := ⟨gb, go + j * 4 + 2, none⟩) BG.out).trans C.out.2.2.1; have c3 := (B2.out.cell (p := ⟨gb, go + j * 4 + 3, none⟩) BG.out).trans C.out.2.2.2))
        obtain ⟨f0, f1, f2, f3⟩ := fourF21 M2.out.box
        have M3 : Hid (Mx w (lay4F w2 Z (.int .i64 ul) (.int .i64 us) (.int .i64 uf) (.int .i64 un)) Z ⟨ul, ⟨us, uf, un⟩⟩ us) := M2.out.lay wz ⟨ul, ⟨us, uf, un⟩⟩
        go_wp2
        go_roundw
        case rel =>
          refine ⟨j + 1, ⟨ul, ⟨us, uf, un⟩⟩, by omega, by omega, by go_num, ?_⟩
          have e : topM (l.take (j + 1)) = us := by rw [ET.out]; omega
          rw [e]
          exact M3.out
        case measure => simp [intOf]; omega
      · have cv := cmpI_le hgt
        obtain ⟨c, hc⟩ : ∃ c, cmpI us ys = c := ⟨_, rfl⟩
        rw [hc] at BS cv
        have c9 : ¬ 0 < c := by omega
        clear cv hc hu E hM hlt2
        go_upto_region 7 with (fail)
        go_region_held3 (fun w' => w'.cell? ⟨Z, 0, none⟩ = some (.int .i64 yl) ∧ w'.cell? ⟨Z, 1, none⟩ = some (.int .i64 ys) ∧ w'.cell? ⟨Z, 2, none⟩ = some (.int .i64 yf) ∧ w'.cell? ⟨Z, 3, none⟩ = some (.int .i64 yn) ∧ w'.cell? ⟨gb, go + j * 4, none⟩ = some (.int .i64 ul) ∧ w'.cell? ⟨gb, go + j * 4 + 1, none⟩ = some (.int .i64 us) ∧ w'.cell? ⟨gb, go + j * 4 + 2, none⟩ = some (.int .i64 uf) ∧ w'.cell? ⟨gb, go + j * 4 + 3, none⟩ = some (.int .i64 un)) (first | exact ⟨y0, y1, y2, y3, c0, c1, c2, c3⟩ | go_keep)
          ((go_at_call 44; refine Calls.mono (BS.out _) ?_; rintro e w2 ⟨rfl, b2⟩; have B2 : Hid (Below wr.heap.size wr w2) := ofDrewM b2; have M2 : Hid (Mx w w2 Z ⟨yl, ⟨ys, yf, yn⟩⟩ (topM (l.take j))) := HM.out.keep B2.out; clear y0 y1 y2 y3 c0 c1 c2 c3 b2; obtain ⟨y0, y1, y2, y3⟩ := four21 M2.out.box; have c0 := (B2.out.cell (p := ⟨gb, go + j * 4, none⟩) BG.out).trans C.out.1; have c1 := (B2.out.cell (p := ⟨gb, go + j * 4 + 1, none⟩) BG.out).trans C.out.2.1; have c2 := (B2.out.cell (p := ⟨gb, go + j * 4 + 2, none⟩) BG.out).trans C.out.2.2.1; have c3 := (B2.out.cell (p := ⟨gb, go + j * 4 + 3, none⟩) BG.out).trans C.out.2.2.2))
        go_wp2
        go_roundw
        case rel =>
          refine ⟨j + 1, ⟨yl, ⟨ys, yf, yn⟩⟩, by omega, by omega, by go_num, ?_⟩
          have q := M2.out
          have e : topM (l.take (j + 1)) = topM (l.take j) := by have := q.top; simp only at this; rw [ET.out, ← this]; omega
          rw [e]
          exact q
        case measure => simp [intOf]; omega
    · obtain rfl : j = N := by omega
      have e : l.take j = l := List.take_of_length_le (by rw [HN.out]; exact Nat.le_refl _)
      have jn : ¬ (j : Int) < (j : Int) := by omega
      rw [e] at HM
      obtain ⟨z0, z1, z2, z3⟩ := four21 hM.res
      obtain ⟨f0, f1, f2, f3⟩ := fourF21 hM.res
      have rr := lay4F_row (a := .int .i64 yl) (b := .int .i64 ys) (c := .int .i64 yf) (d := .int .i64 yn) hM.res
      obtain ⟨e0, e1, e2, e3⟩ := four21 rr
      unfold lay4F at e0 e1 e2 e3
      clear hM rr e
      go_wp2
      exact bodyPost_ret (v := .agg #[.int .i64 yl, .int .i64 ys, .int .i64 yf, .int .i64 yn]) (by simp [results, Tryd.results43, go_sem, e0, e1, e2, e3]) rfl ⟨⟨yl, ⟨ys, yf, yn⟩⟩, rfl, HM.out.top, HM.out.low.trans ((lay4F_only _ _ _ _ _ _).below (Nat.le_refl _))⟩

theorem fieldM (xl xs xf xn : Int) : ∀ w : World, (Instr.field 50 (.agg #[.int .i64 xl, .int .i64 xs, .int .i64 xf, .int .i64 xn]) 1).run Tryd.prog w = .ok (.agg #[.int .i64 xs, .int .i64 xf, .int .i64 xn]) w := fun _ => by kernel_rfl
theorem fieldS (xs xf xn : Int) : ∀ w : World, (Instr.field 48 (.agg #[.int .i64 xs, .int .i64 xf, .int .i64 xn]) 0).run Tryd.prog w = .ok (.int .i64 xs) w := fun _ => by kernel_rfl
set_option maxRecDepth 20000 in
set_option maxHeartbeats 4000000 in
/-- Next. -/
theorem mnext_any (a : Option Addr) (cap : Nat) (l : List Fd) (u : Int) (w : World) (hI : IsW w a l) (h0 : ∀ x ∈ l, 0 ≤ x.m.s) (hb : ∀ x ∈ l, x.m.s ≤ 4294967295) (hl : l.length ≤ 4398046511104) :
    Calls Tryd.prog 19 #[.slice a l.length cap, .int .i64 u] w fun e w' => e = .returned (.tuple #[.int .i64 (nxS (topM l)), .int .i64 (nxL (topM l) u), .int .i64 (nxE (topM l))]) ∧ Below w.heap.size w w' := by
  have t0 := topM_nonneg l
  have t1 := topM_le (l := l) (n := 4294967295) (by omega) hb
  by_cases hz : 0 < l.length
  · have MF : Hid (Calls Tryd.prog 43 #[.slice a l.length cap, .func (.func 44) #[] #[]] w fun e w' => ∃ x : Fd, e = .returned x.v ∧ x.m.s = topM l ∧ Below w.heap.size w w') := maxF_any a cap l w hI hz h0 hl
    obtain ⟨T, hT⟩ : ∃ T, topM l = T := ⟨_, rfl⟩
    obtain ⟨N, hN⟩ : ∃ N, l.length = N := ⟨_, rfl⟩
    rw [hN] at MF hz ⊢
    rw [hT] at MF t0 t1 ⊢
    have nz : (0 : Int) < (N : Int) := by omega
    clear hI h0 hb hl hN hT
    by_cases h1 : 4294967295 ≤ T
    · have r1 : Hid (nxS T = 0) := if_pos h1
      have r2 : Hid (nxL T u = 0) := if_pos h1
      have r3 : Hid (nxE T = 7) := if_pos h1
      go_enter Tryd.func19, Tryd.ntmps19
      go_wp2_with (go_at_call 43; refine Calls.mono MF.out ?_; rintro e w2 ⟨⟨xl, xs, xf, xn⟩, rfl, hxt, b2⟩; have hxt : xs = T := hxt; subst hxt; have B2 : Hid (Below w.heap.size w w2) := b2; clear b2; unfold Fd.v Fd.cs; simp only; have hf1 := fieldM xl xs xf xn; have hf2 := fieldS xs xf xn)
      refine bodyPost_ret (v := .tuple #[.int .i64 0, .int .i64 0, .int .i64 7]) (by simp [results, Tryd.results19, go_sem]) rfl ?_
      exact ⟨by rw [r1.out, r2.out, r3.out], B2.out⟩
    · have r1 : Hid (nxS T = T + 1) := if_neg h1
      have r3 : Hid (nxE T = 0) := if_neg h1
      have wT : IntKind.i64.wrap (T + 1) = T + 1 := by rw [IntKind.wrap_i64]; omega
      by_cases h2 : u = 0
      · subst h2
        have r2 : Hid (nxL T 0 = 1) := by show _ = _; rw [nxL, if_neg h1, if_pos rfl]
        go_enter Tryd.func19, Tryd.ntmps19
        go_wp2_with (go_at_call 43; refine Calls.mono MF.out ?_; rintro e w2 ⟨⟨xl, xs, xf, xn⟩, rfl, hxt, b2⟩; have hxt : xs = T := hxt; subst hxt; have B2 : Hid (Below w.heap.size w w2) := b2; clear b2; unfold Fd.v Fd.cs; simp only; have hf1 := fieldM xl xs xf xn; have hf2 := fieldS xs xf xn)
        refine bodyPost_ret (v := .tuple #[.int .i64 (xs + 1), .int .i64 1, .int .i64 0]) (by simp [results, Tryd.results19, go_sem]) rfl ?_
        exact ⟨by rw [r1.out, r2.out, r3.out], B2.out⟩
      · have r2 : Hid (nxL T u = 0) := by show _ = _; rw [nxL, if_neg h1, if_neg h2]
        have b0 : (u == 0) = false := by simpa using h2
        go_enter Tryd.func19, Tryd.ntmps19
        go_wp2_with (go_at_call 43; refine Calls.mono MF.out ?_; rintro e w2 ⟨⟨xl, xs, xf, xn⟩, rfl, hxt, b2⟩; have hxt : xs = T := hxt; subst hxt; have B2 : Hid (Below w.heap.size w w2) := b2; clear b2; unfold Fd.v Fd.cs; simp only; have hf1 := fieldM xl xs xf xn; have hf2 := fieldS xs xf xn)
        refine bodyPost_ret (v := .tuple #[.int .i64 (xs + 1), .int .i64 0, .int .i64 0]) (by simp [results, Tryd.results19, go_sem]) rfl ?_
        exact ⟨by rw [r1.out, r2.out, r3.out], B2.out⟩
  · obtain rfl : l = [] := List.eq_nil_of_length_eq_zero (by omega)
    have T0 : topM [] = 0 := rfl
    rw [T0]
    have r1 : Hid (nxS 0 = 1) := (by decide : nxS 0 = 1)
    have r3 : Hid (nxE 0 = 0) := (by decide : nxE 0 = 0)
    have wT : IntKind.i64.wrap (0 + 1) = 1 := by decide
    by_cases h2 : u = 0
    · subst h2
      have r2 : Hid (nxL 0 0 = 1) := (by decide : nxL 0 0 = 1)
      go_enter Tryd.func19, Tryd.ntmps19
      go_wp2
      refine bodyPost_ret (v := .tuple #[.int .i64 1, .int .i64 1, .int .i64 0]) (by simp [results, Tryd.results19, go_sem]) rfl ?_
      exact ⟨by rw [r1.out, r2.out, r3.out], Below.refl _ _⟩
    · have r2 : Hid (nxL 0 u = 0) := by show _ = _; rw [nxL, if_neg (by decide), if_neg h2]
      have b0 : (u == 0) = false := by simpa using h2
      go_enter Tryd.func19, Tryd.ntmps19
      go_wp2
      refine bodyPost_ret (v := .tuple #[.int .i64 1, .int .i64 0, .int .i64 0]) (by simp [results, Tryd.results19, go_sem]) rfl ?_
      exact ⟨by rw [r1.out, r2.out, r3.out], Below.refl _ _⟩
end Go.Proofs.YtofmicbhheebiaaDoor
