/- Layer 18: Kinds of the document: a page of kinds' bytes. -/
import Derived.Test.YtjalagjnhjaaoaaPgF
namespace Go.Proofs.Ytjalagjnhjaaoaa
open Go.RowKit
set_option linter.unusedVariables false
set_option maxRecDepth 4000

def kp (k : Kd) : Int × List Int := (k.s, k.l)
/-- What Kinds answers. -/
def pgOutK (l : List (Int × List Int)) (i : Int) : List Int × Int :=
  if 0 ≤ i ∧ i < cntP l.length 16 then (if (pgAt 16 l i.toNat).all kdOk = true then (pgB kdB (pgAt 16 l i.toNat), 0) else ([], 4)) else ([], 2)
theorem sliceK_run (w : World) (g off n c lo hi : Nat) (h1 : lo ≤ hi) (h2 : hi ≤ c) (h3 : lo < c) : (Instr.slice 39 (.slice (some ⟨g, off, none⟩) n c) (some (.int .i64 (lo : Int))) (some (.int .i64 (hi : Int))) none).run Try.prog w = .ok (.slice (some ⟨g, off + lo * 2, none⟩) (hi - lo) (c - lo)) w := by
  have a1 : (lo : Int) ≤ (hi : Int) := by omega
  have a2 : (hi : Int) ≤ (c : Int) := by omega
  have a3 : ¬ c = lo := by omega
  simp [go_sem, a1, a2, a3, addr_add]
theorem IsK.part {w : World} {g off : Nat} {l : List Kd} (h : IsK w (some ⟨g, off, none⟩) l) (lo n : Nat) (hn : lo + n ≤ l.length) : IsK w (some ⟨g, off + lo * 2, none⟩) ((l.drop lo).take n) := by
  refine ⟨?_, fun k hk => h.body k (List.mem_of_mem_drop (List.mem_of_mem_take hk))⟩
  rcases h.at' with h | ⟨b, o, e, hb, hc⟩
  · left; subst h; simp
  · cases e
    right
    refine ⟨g, off + lo * 2, rfl, hb, fun i hi => ?_⟩
    have hi' : lo + i < l.length := by
      rw [List.length_take, List.length_drop] at hi
      omega
    have q := hc (lo + i) hi'
    have e : ((l.drop lo).take n)[i] = l[lo + i] := by simp
    rw [e, show off + lo * 2 + i * 2 = off + (lo + i) * 2 by omega]
    exact q
theorem pgk_len {α : Type} {l : List α} {j : Nat} (h : 16 * j < l.length) : (pgAt 16 l j).length = min (16 * j + 16) l.length - 16 * j ∧ 1 ≤ (pgAt 16 l j).length ∧ (pgAt 16 l j).length ≤ 16 := by
  unfold pgAt
  rw [List.length_take, List.length_drop]
  omega
theorem pgk_map {l : List Kd} {j : Nat} : pgAt 16 (l.map kp) j = (pgAt 16 l j).map kp := by
  unfold pgAt
  rw [List.map_take, List.map_drop]
theorem manyk_more {l : List Kd} {m : Nat} (hm : m < l.length) : manyB kdB ((l.take (m + 1)).map kp) = manyB kdB ((l.take m).map kp) ++ kdB (kp l[m]) := by
  have e : l.take (m + 1) = l.take m ++ [l[m]] := by rw [List.take_add_one, List.getElem?_eq_getElem hm]; rfl
  unfold manyB
  rw [e, List.map_append, List.flatMap_append]
  simp
theorem gaps_len : ∀ (l : List Int) (f : Int), (gapsL f l).length ≤ 10 * l.length
  | [], _ => by simp [gapsL]
  | p :: l, f => by
    rw [gapsL, List.length_append, List.length_cons]
    have := gaps_len l (p + 8)
    have := varL_le ((p - f) / 8)
    omega
theorem kdB_len {s : Int} {ps : List Int} (h : checkK s ps = 0) : (bytesK s ps).length ≤ 180 := by
  have q := (check_zero.1 h).2.2.1
  unfold bytesK
  rw [if_pos h]
  unfold bodyK
  rw [List.length_append, List.length_append]
  have := varL_le s
  have := varL_le (ps.length : Nat)
  have := gaps_len ps 0
  omega
/-- Under way. -/
structure Qb (w wr : World) (p : List Kd) (m : Nat) (a : Option Addr) (c : Nat) : Prop where
  own : OwnsB wr w.heap.size a (varL (p.length : Nat) ++ manyB kdB ((p.take m).map kp)) c
  low : Below w.heap.size w wr
  ok : ∀ x ∈ p.take m, kdOk (kp x) = true
  len : (manyB kdB ((p.take m).map kp)).length ≤ 180 * m
/-- A kind's bytes more. -/
theorem app_kd {w wr wa : World} {O : List Int} {a aa : Option Addr} {c ca : Nat} {L : List Int} (ho : OwnsB wr w.heap.size a O c) (hlow : Below w.heap.size w wr) (b : Below wr.heap.size wr wa) (o : OwnsB wa wr.heap.size aa L ca) (hb : AllB L) (hL : 1 ≤ L.length) (hL2 : L.length ≤ 1000) (hl : O.length ≤ 100000) :
    ∃ a' c' w', (Builtin.append_ #[24, 24] 24 #[.slice a O.length c, .slice aa L.length ca]).run Try.prog wa = .ok (.slice a' (O ++ L).length c') w' ∧ OwnsB w' w.heap.size a' (O ++ L) c' ∧ Below w.heap.size w w' := by
  have h2 := OwnsB.keep ho b
  obtain ⟨ad, rfl⟩ : ∃ ad, aa = some ad := by
    obtain ⟨_, ⟨q, q2⟩ | ⟨g, c', cur, q, _⟩⟩ := o
    · omega
    · injection q with q
      exact ⟨_, q⟩
  have low2 : Below w.heap.size w wa := hlow.trans (b.mono hlow.size)
  obtain ⟨a', c', w', hrun, o', g'⟩ := appB_g18 wa w.heap.size low2.size a O c h2 ad L ca (ownsB_isB hb o) (by omega)
  have hk : ∀ k, (Value.slice a O.length c).ownBlock = some k → w.heap.size ≤ k := own_ge h2
  exact ⟨a', c', w', hrun, o', low2.trans ⟨g'.os, g'.tape, g'.output, g'.size, fun k hk' => g'.block k (by have := low2.size; omega) (fun e => by have := hk k e.symm; omega)⟩⟩
theorem newboxk {w D : World} {s : Int} {a : Option Addr} {n c : Nat} (h : w.alloc (.cells #[.int .i64 s, .slice a n c] 54) = D) : D.cell? ⟨w.heap.size, 0, none⟩ = some (.int .i64 s) ∧ D.cell? ⟨w.heap.size, 1, none⟩ = some (.slice a n c) ∧ Below w.heap.size w D := by
  have r : D.heap[w.heap.size]? = some (.cells #[.int .i64 s, .slice a n c] 54 (0, 0)) := by rw [← h]; exact Go.heap_alloc_new w _
  exact ⟨cell_of_row _ _ 0 _ _ _ r, cell_of_row _ _ 1 _ _ _ r, by rw [← h]; exact (Below.refl _ w).alloc (Nat.le_refl _) _⟩
set_option maxRecDepth 20000 in
set_option maxHeartbeats 8000000 in
/-- Kinds of the document. -/
theorem dkinds_any (a : Option Addr) (cap : Nat) (l : List Kd) (i : Int) (w : World) (h : IsK w a l) (hm : l.length ≤ 17592186044416) (hc : l.length ≤ cap) (hi : -9223372036854775808 ≤ i ∧ i ≤ 9223372036854775807) :
    Calls Try.prog 19 #[.slice a l.length cap, .int .i64 i] w fun e w' => ∃ a' c', e = .returned (.tuple #[.slice a' (pgOutK (l.map kp) i).1.length c', .int .i64 (pgOutK (l.map kp) i).2]) ∧ OwnsB w' w.heap.size a' (pgOutK (l.map kp) i).1 c' ∧ Below w.heap.size w w' := by
  have CNT : Hid (Calls Try.prog 15 #[.int .i64 (l.length : Nat), .int .i64 16] w fun e w' => e = .returned (.int .i64 (cntP l.length 16)) ∧ w = w') := dcount_any _ _ w (by omega) (by omega)
  obtain ⟨C, hC⟩ : ∃ C, cntP (l.length : Int) 16 = C := ⟨_, rfl⟩
  have HC : Hid (cntP (l.length : Int) 16 = C) := hC
  have HC2 : Hid (cntP ((l.map kp).length : Int) 16 = C) := by show _ = _; rw [List.length_map]; exact hC
  rw [hC] at CNT
  have C0 : 0 ≤ C := by rw [← hC]; exact cnt_le.1
  clear hC
  by_cases i0 : i < 0
  · have e : pgOutK (l.map kp) i = ([], 2) := if_neg (by omega)
    rw [e]
    go_enter Try.func19, Try.ntmps19
    go_wp2_with (go_at_call 15; refine CNT.out.mono ?_; rintro e w' ⟨rfl, rfl⟩)
    go_ret2
    exact ⟨none, 0, rfl, World.ownsRow_nil _ _ _ _, Below.refl _ _⟩
  by_cases i1 : C ≤ i
  · have e : pgOutK (l.map kp) i = ([], 2) := if_neg (by rw [HC2.out]; omega)
    rw [e]
    go_enter Try.func19, Try.ntmps19
    go_wp2_with (go_at_call 15; refine CNT.out.mono ?_; rintro e w' ⟨rfl, rfl⟩)
    go_ret2
    exact ⟨none, 0, rfl, World.ownsRow_nil _ _ _ _, Below.refl _ _⟩
  obtain ⟨j, rfl⟩ : ∃ j : Nat, i = (j : Int) := ⟨i.toNat, by omega⟩
  have jl : 16 * j < l.length := (cnt_in (n := l.length) (per := 16) (i := j) (by decide)).1 (by have := HC.out; simp only [Int.cast_ofNat_Int] at *; omega)
  obtain ⟨pl1, pl2, pl3⟩ := pgk_len jl
  have PO : Hid (pgOutK (l.map kp) (j : Int) = if ((pgAt 16 l j).map kp).all kdOk = true then (pgB kdB ((pgAt 16 l j).map kp), 0) else ([], 4)) := by
    show _ = _
    unfold pgOutK
    rw [if_pos ⟨by omega, by rw [HC2.out]; omega⟩, Int.toNat_natCast, pgk_map]
  obtain ⟨gr, off, rfl⟩ : ∃ gr off, a = some ⟨gr, off, none⟩ := by
    rcases h.at' with q | ⟨b, o, e, _⟩
    · rw [q] at jl; simp at jl
    · exact ⟨b, o, e⟩
  have HP : Hid (IsK w (some ⟨gr, off + 16 * j * 2, none⟩) (pgAt 16 l j)) := by
    have q := h.part (16 * j) (pgAt 16 l j).length (by rw [pl1]; omega)
    have e : (l.drop (16 * j)).take (pgAt 16 l j).length = pgAt 16 l j := by
      unfold pgAt
      rw [List.length_take, List.take_eq_take_iff]
      simp
    rw [e] at q
    exact q
  obtain ⟨p, hp⟩ : ∃ p, pgAt 16 l j = p := ⟨_, rfl⟩
  rw [hp] at PO HP pl1 pl2 pl3
  obtain ⟨P, hP⟩ : ∃ P, p.length = P := ⟨_, rfl⟩
  have HPL : Hid (p.length = P) := hP
  rw [hP] at pl1 pl2 pl3
  obtain ⟨lo, hlo⟩ : ∃ lo : Nat, 16 * j = lo := ⟨_, rfl⟩
  rw [hlo] at HP jl pl1
  have w1 : IntKind.i64.wrap (16 * (j : Int)) = (lo : Int) := by rw [IntKind.wrap_i64]; omega
  obtain ⟨l32, hl32⟩ : ∃ x : Nat, lo + 16 = x := ⟨_, rfl⟩
  have w2 : IntKind.i64.wrap ((lo : Int) + 16) = (l32 : Int) := by rw [IntKind.wrap_i64]; omega
  obtain ⟨hi2, hhi, hcase⟩ : ∃ x : Nat, x = min l32 l.length ∧ ((x = l32 ∧ l32 ≤ l.length) ∨ (x = l.length ∧ ¬ l32 ≤ l.length)) := ⟨_, rfl, by omega⟩
  have ePP : P = hi2 - lo := by omega
  have SLR : ∀ w : World, (Instr.slice 39 (.slice (some ⟨gr, off, none⟩) l.length cap) (some (.int .i64 (lo : Int))) (some (.int .i64 (hi2 : Int))) none).run Try.prog w = .ok (.slice (some ⟨gr, off + lo * 2, none⟩) P (cap - lo)) w := fun w => by
    rw [sliceK_run w gr off l.length cap lo hi2 (by omega) (by omega) (by omega), ← ePP]
  have up : IntKind.u64.wrap (P : Int) = (P : Int) := by rw [IntKind.wrap_u64]; omega
  clear h hp hP hlo pl1 ePP hhi hl32
  go_enter Try.func19, Try.ntmps19
  go_upto_region 3 with (go_at_call 15; refine CNT.out.mono ?_; rintro e w' ⟨rfl, rfl⟩)
  go_cut [6] from 10 to 28 (fun v wx => v = .slice (some ⟨gr, off + lo * 2, none⟩) P (cap - lo) ∧ wx = w)
  case first =>
    rcases hcase with ⟨rfl, hle⟩ | ⟨rfl, hle⟩
    · have m1 : (hi2 : Int) ≤ (l.length : Int) := by omega
      have m2 : ¬ (l.length : Int) < (hi2 : Int) := by omega
      go_wp2
      go_meet
      exact ⟨rfl, rfl⟩
    · have m1 : ¬ (l32 : Int) ≤ (l.length : Int) := by omega
      have m2 : (l.length : Int) < (l32 : Int) := by omega
      go_wp2
      go_meet
      exact ⟨rfl, rfl⟩
  case rest =>
    obtain ⟨rfl, hw⟩ := hcut
    rw [hw]
    clear hw hcase SLR
    go_wp2_with fail
    refine (rvarw_any (P : Int) w (by omega) (by omega)).mono ?_
    rintro e w1 ⟨a1, c1, rfl, o1, b1⟩
    have S0 : Hid (Qb w w1 p 0 a1 c1) := ⟨by have e : varL (p.length : Nat) ++ manyB kdB ((p.take 0).map kp) = varL (P : Int) := (by rw [HPL.out]; simp [manyB]); rw [e]; exact o1, b1, by simp, by simp [manyB]⟩
    have HE0 : Hid ((varL (p.length : Nat) ++ manyB kdB ((p.take 0).map kp)).length = (varL (P : Int)).length) := by show _ = _; rw [HPL.out]; simp [manyB]
    clear o1 b1
    go_wp2_with fail
    go_loopw [7, 35] (fun ov iv wr => ∃ (m : Nat) (a : Option Addr) (c : Nat), m ≤ P ∧ iv = .int .i64 (m : Nat) ∧ ov = .slice a (varL (p.length : Nat) ++ manyB kdB ((p.take m).map kp)).length c ∧ Qb w wr p m a c) (fun _ iv _ => P - (intOf iv).toNat)
    case atStart => exact ⟨0, a1, c1, Nat.zero_le _, rfl, by rw [HE0.out], S0.out⟩
    case round =>
      clear S0 HE0
      obtain ⟨m, a, c, hm', rfl, rfl, hS⟩ := hrel
      rename World => wr
      have HS : Hid (Qb w wr p m a c) := hS
      clear hS
      obtain ⟨OO, hOO⟩ : ∃ L, varL (p.length : Nat) ++ manyB kdB ((p.take m).map kp) = L := ⟨_, rfl⟩
      have HOO : Hid (varL (p.length : Nat) ++ manyB kdB ((p.take m).map kp) = OO) := hOO
      have LOO : Hid (OO.length ≤ 10 + 180 * m) := by
        show _ ≤ _
        rw [← hOO, List.length_append]
        have := HS.out.len
        have := varL_le (p.length : Nat)
        omega
      rw [hOO]
      clear hOO
      by_cases hmn : m < P
      · have hmp : m < p.length := by rw [HPL.out]; exact hmn
        have KK := HP.out.keep HS.out.low
        obtain h0 | ⟨b, o, eb, hs1, cc⟩ := KK.at'
        · rw [h0] at hmp; simp at hmp
        cases eb
        obtain ⟨q0, q1⟩ := cc m hmp
        obtain ⟨IX, _, MX⟩ := KK.body p[m] (List.getElem_mem hmp)
        have m0 : (m : Int) < (P : Int) := by omega
        have MORE : Hid (manyB kdB ((p.take (m + 1)).map kp) = manyB kdB ((p.take m).map kp) ++ kdB (kp p[m])) := manyk_more hmp
        have BAD : Hid (kdOk (kp p[m]) = false → (p.map kp).all kdOk = false) := fun q => by
          rw [List.all_eq_false]
          exact ⟨kp p[m], List.mem_map.2 ⟨_, List.getElem_mem hmp, rfl⟩, by rw [q]; decide⟩
        have OKK : Hid (kdOk (kp p[m]) = true → ∀ x ∈ p.take (m + 1), kdOk (kp x) = true) := fun q x hx => by
          rw [List.take_add_one, List.getElem?_eq_getElem hmp] at hx
          rcases List.mem_append.1 hx with hx | hx
          · exact HS.out.ok x hx
          · simp at hx
            rw [hx]
            exact q
        obtain ⟨R, hR⟩ : ∃ R, p[m] = R := ⟨_, rfl⟩
        rw [hR] at q0 q1 IX MX MORE BAD OKK
        obtain ⟨s, ka, kc, ps⟩ := R
        simp only [kp] at q0 q1 IX MX MORE BAD OKK
        obtain ⟨G, hG⟩ : ∃ G, wr.alloc (.cells #[.int .i64 s, .slice ka ps.length kc] 54) = G := ⟨_, rfl⟩
        obtain ⟨e0, e1, bG⟩ := newboxk hG
        have HG : Hid (wr.alloc (.cells #[.int .i64 s, .slice ka ps.length kc] 54) = G) := hG
        obtain ⟨ng, hng⟩ : ∃ ng, wr.heap.size = ng := ⟨_, rfl⟩
        rw [hng] at e0 e1
        have HNG : Hid (wr.heap.size = ng) := hng
        have BG : Hid (Below wr.heap.size wr G) := bG
        have IG : Hid (IsI G ka ps) := IX.keep bG
        have MXH : Hid (ps.length ≤ maxLen) := MX
        clear hR hG bG hng KK cc hs1 IX MX
        go_upto_region 8 with (fail)
        rw [HG.out]
        try rw [HNG.out]
        clear q0 q1
        obtain ⟨v, hv⟩ : ∃ v, checkK s ps = v := ⟨_, rfl⟩
        have HV : Hid (checkK s ps = v) := hv
        clear hv
        go_wp2_with fail
        refine (rcheck_any s ka kc ps G IG.out MXH.out).mono ?_
        rw [HV.out]
        rintro e w2 ⟨rfl, b2⟩
        have B2 : Hid (Below wr.heap.size wr w2) := BG.out.trans (b2.mono BG.out.size)
        have I2 : Hid (IsI w2 ka ps) := IG.out.keep b2
        have e0' := bcellK b2 e0
        have e1' := bcellK b2 e1
        clear b2 e0 e1
        by_cases hv : v = 0
        · subst hv
          have KOK : Hid (kdOk (s, ps) = true) := decide_eq_true HV.out
          go_wp2_with fail
          refine (rkbytes_any s ka kc ps w2 I2.out MXH.out).mono ?_
          rintro e w3 ⟨a3, c3, rfl, o3, b3⟩
          have hl3 := kdB_len HV.out
          have hl1 : 1 ≤ (bytesK s ps).length := by
            unfold bytesK bodyK
            rw [if_pos HV.out, List.length_append, List.length_append]
            have q := digs_pos 9 s
            have e : (varL s).length = (digs 9 s).length := rfl
            omega
          obtain ⟨a4, c4, w4, run4, o4, b4⟩ := app_kd (w := w) (OwnsB.keep HS.out.own B2.out) (HS.out.low.trans (B2.out.mono HS.out.low.size)) b3 o3 (bytes_byte s ps) hl1 (by omega) (by rw [HOO.out]; have := LOO.out; omega)
          rw [HOO.out] at run4 o4
          obtain ⟨O4, hO4⟩ : ∃ L, OO ++ bytesK s ps = L := ⟨_, rfl⟩
          have HO4 : Hid (OO ++ bytesK s ps = O4) := hO4
          rw [hO4] at run4 o4
          have RUN4 : Hid _ := run4
          have NX : Hid (Qb w w4 p (m + 1) a4 c4) := by
            have e4 : manyB kdB ((p.take (m + 1)).map kp) = manyB kdB ((p.take m).map kp) ++ bytesK s ps := by rw [MORE.out]; rfl
            refine ⟨?_, b4, OKK.out KOK.out, ?_⟩
            · rw [e4, ← List.append_assoc, HOO.out, hO4]; exact o4
            · rw [e4, List.length_append]; have := HS.out.len; omega
          have EL : Hid (O4.length = (varL (p.length : Nat) ++ manyB kdB ((p.take (m + 1)).map kp)).length) := by
            show _ = _
            rw [MORE.out, ← List.append_assoc, HOO.out, ← HO4.out]
            rfl
          clear run4 o4 b4 o3 b3 hO4 hl1 hl3 e0' e1'
          go_wp2_with (at_builtin; refine wpList_runb rfl rfl _ _ rfl (.slice a OO.length c) (.slice a3 (bytesK s ps).length c3) _ _ rfl rfl RUN4.out ?_)
          go_wp2
          go_roundw
          case rel => exact ⟨m + 1, a4, c4, by omega, by go_num, by rw [EL.out], NX.out⟩
          case measure => simp [intOf]; omega
        · have ne : (v != 0) = true := by rw [bne_iff_ne]; exact hv
          have KNO : kdOk (s, ps) = false := decide_eq_false (fun q => hv (by rw [← HV.out]; exact q))
          have HE : Hid (pgOutK (l.map kp) (j : Int) = ([], 4)) := by show _ = _; rw [PO.out, if_neg (by rw [BAD.out KNO]; decide)]
          clear KNO
          go_wp2
          go_ret2
          rw [HE.out]
          exact ⟨none, 0, rfl, World.ownsRow_nil _ _ _ _, HS.out.low.trans (B2.out.mono HS.out.low.size)⟩
      · have m0 : ¬ (m : Int) < (P : Int) := by omega
        have em : p.take m = p := List.take_of_length_le (by rw [HPL.out]; omega)
        have AL : (p.map kp).all kdOk = true := List.all_eq_true.2 (fun x hx => by
          obtain ⟨y, hy, rfl⟩ := List.mem_map.1 hx
          exact HS.out.ok y (by rw [em]; exact hy))
        have e : pgOutK (l.map kp) (j : Int) = (OO, 0) := by
          rw [PO.out, if_pos AL, ← HOO.out, em]
          unfold pgB
          rw [List.length_map]
        have OF : Hid (OwnsB wr w.heap.size a OO c) := by show OwnsB _ _ _ _ _; rw [← HOO.out]; exact HS.out.own
        have HE : Hid (pgOutK (l.map kp) (j : Int) = (OO, 0)) := e
        clear em AL e
        go_wp2
        go_ret2
        rw [HE.out]
        exact ⟨a, c, rfl, OF.out, HS.out.low⟩
end Go.Proofs.Ytjalagjnhjaaoaa
