/- All slots given back: lift. -/
import Derived.Test.YtbnmbkohmmiamaaDoorLbD
namespace Go.Proofs.YtbnmbkohmmiamaaDoor
open Go.RowKit
set_option linter.unusedVariables false

theorem upd_same {F : Nat → Nat → Bool} {i : Nat} {f : Nat → Bool} (h : F i = f) : updF F i f = F := by
  funext k; unfold updF; by_cases e : k = i
  · subst e; rw [if_pos rfl, h]
  · rw [if_neg e]
theorem upd_upd {F : Nat → Nat → Bool} {i : Nat} {f g : Nat → Bool} : updF (updF F i f) i g = updF F i g := by
  funext k; unfold updF; by_cases e : k = i
  · rw [if_pos e, if_pos e]
  · rw [if_neg e, if_neg e, if_neg e]
theorem upd_at {F : Nat → Nat → Bool} {i : Nat} {f : Nat → Bool} : updF F i f i = f := if_pos rfl
theorem clr_more {F : Nat → Nat → Bool} {l : List Nat} {i : Nat} : updF (clrF F l) i (fun _ => false) = clrF F (l ++ [i]) := by
  funext k; unfold updF clrF
  by_cases e : k = i
  · subst e; rw [if_pos rfl, if_pos (by simp)]
  · rw [if_neg e]
    by_cases h : k ∈ l
    · rw [if_pos h, if_pos (by simp [h])]
    · rw [if_neg h, if_neg (by simp [h, e])]
theorem clr_nil {F : Nat → Nat → Bool} : clrF F [] = F := by funext k; simp [clrF]
/-- A slot given back. -/
theorem turn_from {F : Nat → Bool} {x sl : Nat} (hx : x < sl) : turn sl (fun y => F y && decide (x ≤ y)) (x : Int) false = (fun y => F y && decide (x + 1 ≤ y)) ∧ hasB sl (fun y => F y && decide (x ≤ y)) (x : Int) = F x := by
  have hp : isP sl (x : Int) = true := isP_true.2 (by omega)
  constructor
  · funext y
    rw [← turn_put hp y, Int.toNat_natCast]
    show (if y = x then false else (F y && decide (x ≤ y))) = _
    by_cases e : y = x
    · subst e; simp
    · rw [if_neg e]
      congr 1
      exact decide_eq_decide.2 (by omega)
  · unfold hasB
    rw [hp, Int.toNat_natCast]
    simp
theorem Rt.zn {p c s : Int} (r : Rt p c s) : szI c s = ((szI c s).toNat : Int) := by have := r.facts.2.2.2.1; omega
theorem at_nat {P : Nat} {m : List Sn} (h : Std P m) (i : Nat) (hi : i < m.length) (x : Nat) : 256 * ((sn m i).pg : Int) + (x : Int) * szI ((sn m i).cl : Int) ((sn m i).bts : Int) = (((sn m i).at x : Nat) : Int) := by
  unfold Sn.at Sn.z
  rw [Int.natCast_add, Int.natCast_mul, Int.natCast_mul, ← (h.rt i hi).zn]
  rfl
theorem from_le {P : Nat} {m : List Sn} (h : Std P m) (F : Nat → Nat → Bool) : ∀ (l : List Nat), (∀ i ∈ l, i < m.length) → (fromU m F l).length ≤ 16 * l.length
  | [], _ => by simp [fromU]
  | a :: l, hl => by
    have ih := from_le h F l (fun i hi => hl i (by simp [hi]))
    have := (h.ok a (hl a (by simp))).facts.2.1
    have c := cnt_le (F a) (sn m a).sl
    unfold fromU at ih ⊢
    rw [List.flatMap_cons, List.length_append, List.length_map, lsN_len, List.length_cons]
    omega
set_option maxRecDepth 20000 in
set_option maxHeartbeats 4000000 in
theorem lift_any (w wr : World) (L : Nat → Nat) (a : Option Addr) (ps : List Nat) (n c P : Nat) (m : List Sn) (F : Nat → Nat → Bool) (own : List Nat) (aq : Option Addr) (nq cq : Nat) (h : Sta w wr L a ps n c m F) (hq : Sub w wr L ps own aq nq cq) (hS : Std P m) (hw : ∀ i, i < m.length → ∀ y, F i y = true → y < (sn m i).sl) (hown : ∀ i ∈ own, i < m.length) (hnd : own.Pairwise (· < ·)) (hnq : nq ≤ 4096) :
    Calls Tryd.prog 47 #[.slice aq nq cq] wr fun e w' => ∃ al cl, e = .returned (.slice al (fromU m F own).length cl) ∧ OwnsI w' wr.heap.size al ((fromU m F own).map Int.ofNat) cl ∧ (∀ g, ob al = some g → L g = 0) ∧ Sta w w' L a ps n c m (clrF F own) ∧ Sub w w' L ps own aq nq cq ∧ Tu (fun k => L k ≠ 0 ∨ wr.heap.size ≤ k) wr w' := by
  have ST : Hid (Sta w wr L a ps n c m F) := h
  have SQ : Hid (Sub w wr L ps own aq nq cq) := hq
  have HS : Hid (Std P m) := hS
  have HW : Hid (∀ i, i < m.length → ∀ y, F i y = true → y < (sn m i).sl) := hw
  have OW : Hid (∀ i ∈ own, i < m.length) := hown
  have ND : Hid (own.Pairwise (· < ·)) := hnd
  have hlen := hq.len
  have HLN : Hid (own.length = nq) := hlen
  have FL : Hid (∀ r, (fromU m F (own.take r)).length ≤ 65536) := fun r => by
    have := from_le hS F (own.take r) (fun i hi => hown i (List.mem_of_mem_take hi))
    have : (own.take r).length ≤ nq := by rw [List.length_take, hlen]; omega
    show _ ≤ _; omega
  clear h hq hS hw hown hnd hlen
  go_enter Tryd.func47, Tryd.ntmps47
  go_wp2_with fail
  go_loopw [3, 11] (fun lv iv wz => ∃ (r N : Nat) (al : Option Addr) (cl : Nat), r ≤ nq ∧ iv = .int .i64 (r : Nat) ∧ lv = .slice al N cl ∧ (fromU m F (own.take r)).length = N ∧ OwnsI wz wr.heap.size al ((fromU m F (own.take r)).map Int.ofNat) cl ∧ (∀ g, ob al = some g → L g = 0) ∧ Sta w wz L a ps n c m (clrF F (own.take r)) ∧ Sub w wz L ps own aq nq cq ∧ Tu (fun k => L k ≠ 0 ∨ wr.heap.size ≤ k) wr wz) (fun _ iv _ => nq - lenW iv)
  case atStart => exact ⟨0, 0, none, 0, Nat.zero_le _, rfl, rfl, rfl, ownsI_none _ _, (fun g hg => by cases hg), by rw [List.take_zero, clr_nil]; exact ST.out, SQ.out, Tu.refl _ _⟩
  case round =>
    obtain ⟨r, N, al, cl, hr, rfl, rfl, hN, hO, hz, hSt, hSub, hTu⟩ := hrel
    rename World => wz
    have HN : Hid ((fromU m F (own.take r)).length = N) := hN
    have OZ : Hid (OwnsI wz wr.heap.size al ((fromU m F (own.take r)).map Int.ofNat) cl) := hO
    have RZ : Hid (∀ g, ob al = some g → L g = 0) := hz
    have SZ : Hid (Sta w wz L a ps n c m (clrF F (own.take r))) := hSt
    have QZ : Hid (Sub w wz L ps own aq nq cq) := hSub
    have TZ : Hid (Tu (fun k => L k ≠ 0 ∨ wr.heap.size ≤ k) wr wz) := hTu
    clear hN hO hz hSt hSub hTu
    by_cases hrn : r < nq
    · have hro : r < own.length := by rw [HLN.out]; exact hrn
      obtain ⟨g, rfl, cp⟩ := QZ.out.at r hro
      have io : own.getD r 0 ∈ own := getD_mem hro
      have TK : own.take (r + 1) = own.take r ++ [own.getD r 0] := by rw [List.take_succ_eq_append_getElem hro, getD_eq 0 hro]
      have NIN : own.getD r 0 ∉ own.take r := fun e => by
        obtain ⟨j, hj, e⟩ := List.getElem_of_mem e
        rw [List.length_take] at hj
        rw [List.getElem_take, getD_eq 0 hro] at e
        have := (List.pairwise_iff_getElem.1 ND.out) j r (by omega) hro (by omega)
        omega
      obtain ⟨i, hi⟩ : ∃ i, own.getD r 0 = i := ⟨_, rfl⟩
      rw [hi] at cp io TK NIN
      have him : i < m.length := OW.out i io
      have HIM : Hid (i < m.length) := him
      have HTK : Hid (own.take (r + 1) = own.take r ++ [i]) := TK
      have CI : clrF F (own.take r) i = F i := by unfold clrF; rw [if_neg NIN]
      have RT : Hid (Rt ((sn m i).pg : Int) ((sn m i).cl : Int) ((sn m i).bts : Int)) := HS.out.rt i him
      have AT : Hid (∀ x : Nat, 256 * ((sn m i).pg : Int) + (x : Int) * szI ((sn m i).cl : Int) ((sn m i).bts : Int) = (((sn m i).at x : Nat) : Int)) := fun x => at_nat HS.out i him x
      have AB : Hid (∀ x, x < (sn m i).sl → (sn m i).at x ≤ 1048576) := fun x hx => by
        have := ((HS.out.ok i him).at_in hx).2
        have t1 := HS.out.top i him
        have t2 := HS.out.most
        show _ ≤ _; omega
      obtain ⟨S, hSl⟩ : ∃ S, (sn m i).sl = S := ⟨_, rfl⟩
      have HSL : Hid (slN ((sn m i).cl : Int) = S) := hSl
      have S16 : S ≤ 16 := by rw [← hSl]; exact (HS.out.ok i him).facts.2.1
      rw [hSl] at AB
      have WI : Hid (∀ y, F i y = true → y < S) := fun y hy => by rw [← hSl]; exact HW.out i him y hy
      have S0 : Hid (clrF F (own.take r) = updF (clrF F (own.take r)) i (fun y => F i y && decide (0 ≤ y))) := by
        refine (upd_same ?_).symm
        rw [CI]; funext y; simp
      have SE : Hid (updF (clrF F (own.take r)) i (fun y => F i y && decide (S ≤ y)) = clrF F (own.take (r + 1))) := by
        show _ = _
        rw [HTK.out, ← clr_more]
        congr 1
        funext y
        cases e : F i y
        · rfl
        · have := WI.out y e
          simp; omega
      have FE : Hid (fromU m F (own.take (r + 1)) = fromU m F (own.take r) ++ (lsN (F i) S).map (sn m i).at) := by
        show _ = _
        rw [HTK.out]
        unfold fromU
        rw [List.flatMap_append, ← hSl]
        simp
      obtain ⟨q, hq⟩ : ∃ q, ps.getD i 0 = q := ⟨_, rfl⟩
      have HQ : Hid (ps.getD i 0 = q) := hq
      rw [hq] at cp
      have LS : Hid (∀ x, ((lsN (F i) x).map (sn m i).at).length ≤ x) := fun x => by rw [List.length_map, lsN_len]; exact cnt_le _ _
      have FLr := FL.out r
      rw [HN.out] at FLr
      have r0 : (r : Int) < (nq : Int) := by omega
      obtain ⟨b, g2, sp, l1, l2, l3⟩ := SZ.out.at i him
      rw [hq] at sp l1
      have BX0 : Hid (Bx wz q ((sn m i).pg : Int) ((sn m i).cl : Int) ((sn m i).bts : Int)) := sp.box
      have TB0 : Hid (Tabs wz) := SZ.out.sp.tab
      obtain ⟨A, hA⟩ : ∃ A, fromU m F (own.take r) = A := ⟨_, rfl⟩
      rw [hA] at OZ HN FE
      have SZ2 : Hid (Sta w wz L a ps n c m (updF (clrF F (own.take r)) i (fun y => F i y && decide (0 ≤ y)))) := by have := SZ.out; rw [S0.out] at this; exact this
      clear sp l1 l2 l3 hi TK NIN CI him hSl hq io hA
      go_wp2_with (go_at_call 23; refine (slots_rt q _ _ _ _ BX0.out TB0.out.1 RT.out S HSL.out).mono ?_; rintro e w' ⟨rfl, rfl⟩)
      go_loopw [3, 17] (fun lv jv wy => ∃ (x N : Nat) (al : Option Addr) (cl : Nat), x ≤ S ∧ jv = .int .i64 (x : Nat) ∧ lv = .slice al N cl ∧ (A ++ (lsN (F i) x).map (sn m i).at).length = N ∧ OwnsI wy wr.heap.size al ((A ++ (lsN (F i) x).map (sn m i).at).map Int.ofNat) cl ∧ (∀ g, ob al = some g → L g = 0) ∧ Sta w wy L a ps n c m (updF (clrF F (own.take r)) i (fun y => F i y && decide (x ≤ y))) ∧ Sub w wy L ps own (some ⟨g, 0, none⟩) nq cq ∧ Tu (fun k => L k ≠ 0 ∨ wr.heap.size ≤ k) wr wy) (fun _ jv _ => S - lenW jv)
      case atStart => exact ⟨0, N, al, cl, Nat.zero_le _, rfl, rfl, by simpa [lsN] using HN.out, by simpa [lsN] using OZ.out, RZ.out, SZ2.out, QZ.out, TZ.out⟩
      case round =>
        obtain ⟨x, N2, al2, cl2, hx, rfl, rfl, hN2, hO2, hz2, hSt2, hSub2, hTu2⟩ := hrel
        rename World => wy
        have N2' : Hid ((A ++ (lsN (F i) x).map (sn m i).at).length = N2) := hN2
        have O2 : Hid (OwnsI wy wr.heap.size al2 ((A ++ (lsN (F i) x).map (sn m i).at).map Int.ofNat) cl2) := hO2
        have Z2 : Hid (∀ g, ob al2 = some g → L g = 0) := hz2
        have S2 : Hid (Sta w wy L a ps n c m (updF (clrF F (own.take r)) i (fun y => F i y && decide (x ≤ y)))) := hSt2
        have Q2 : Hid (Sub w wy L ps own (some ⟨g, 0, none⟩) nq cq) := hSub2
        have T2 : Hid (Tu (fun k => L k ≠ 0 ∨ wr.heap.size ≤ k) wr wy) := hTu2
        have N2b : N2 ≤ 65552 := by rw [← hN2, List.length_append]; have := LS.out x; have := HN.out; omega
        clear hN2 hO2 hz2 hSt2 hSub2 hTu2
        by_cases hxS : x < S
        · obtain ⟨b, g2, sp, l1, l2, l3⟩ := S2.out.at i HIM.out
          rw [upd_at] at sp
          have l1' := l1
          rw [HQ.out] at sp l1'
          have SPH : Hid (SpanAt wy q b g2 ((sn m i).pg : Int) ((sn m i).cl : Int) ((sn m i).bts : Int) (fun y => F i y && decide (x ≤ y))) := sp
          have LH : Hid (L (ps.getD i 0) = i + 1 ∧ L b = i + 1 ∧ L g2 = i + 1) := ⟨l1, l2, l3⟩
          obtain ⟨tf1, tf2⟩ := turn_from (F := F i) (x := x) (sl := S) hxS
          have TF : Hid (turn (slN ((sn m i).cl : Int)) (fun y => F i y && decide (x ≤ y)) (x : Int) false = (fun y => F i y && decide (x + 1 ≤ y)) ∧ hasB (slN ((sn m i).cl : Int)) (fun y => F i y && decide (x ≤ y)) (x : Int) = F i x) := by show _ ∧ _; rw [HSL.out]; exact ⟨tf1, tf2⟩
          have x0 : (x : Int) < (S : Int) := by omega
          have LSS : lsN (F i) (x + 1) = lsN (F i) x ++ (if F i x then [x] else []) := rfl
          clear sp l1 l2 l3 l1' tf1 tf2
          go_wp2_with fail
          refine (give_any q b g2 _ _ _ _ (x : Int) _ SPH.out).mono ?_
          rw [TF.out.1, TF.out.2]
          rintro e w3 ⟨rfl, s3, o3⟩
          have S3 : Hid (Sta w w3 L a ps n c m (updF (clrF F (own.take r)) i (fun y => F i y && decide (x + 1 ≤ y)))) := by
            have := S2.out.turned i HIM.out b g2 _ LH.out.1 LH.out.2.1 LH.out.2.2 (by rw [HQ.out]; exact s3) o3
            rw [upd_upd] at this
            exact this
          have g2ne : ∀ k, L k = 0 → k ≠ g2 := fun k hk e => by have := LH.out.2.2; rw [← e] at this; omega
          have Q3 : Hid (Sub w w3 L ps own (some ⟨g, 0, none⟩) nq cq) := Q2.out.same (fun k o hk ho => by rw [o3.block k (g2ne k (Q2.out.rz k hk))]; exact ho)
          have O3 : Hid (OwnsI w3 wr.heap.size al2 ((A ++ (lsN (F i) x).map (sn m i).at).map Int.ofNat) cl2) := O2.out.same (fun k o hk ho => by rw [o3.block k (g2ne k (Z2.out k hk))]; exact ho)
          have BX3 : Hid (Bx w3 q ((sn m i).pg : Int) ((sn m i).cl : Int) ((sn m i).bts : Int)) := s3.box
          have TB3 : Hid (Tabs w3) := S3.out.sp.tab
          have T3 : Hid (Tu (fun k => L k ≠ 0 ∨ wr.heap.size ≤ k) wr w3) := T2.out.trans (Tu.ofOnly o3 (.inl (by have := LH.out.2.2; omega)))
          clear s3 o3 g2ne
          cases hfx : F i x with
          | false =>
            rw [hfx] at LSS
            have EQ : Hid (lsN (F i) (x + 1) = lsN (F i) x) := by show _ = _; rw [LSS]; simp
            clear LSS
            go_wp2
            go_roundw
            case rel => exact ⟨x + 1, N2, al2, cl2, by omega, by congr 1, rfl, by rw [EQ.out]; exact N2'.out, by rw [EQ.out]; exact O3.out, Z2.out, S3.out, Q3.out, T3.out⟩
            case measure => simp [lenW]; omega
          | true =>
            rw [hfx] at LSS
            have EQ : Hid (lsN (F i) (x + 1) = lsN (F i) x ++ [x]) := LSS
            have XS : Hid (x < slN ((sn m i).cl : Int)) := by show _ < _; rw [HSL.out]; exact hxS
            have ab := AB.out x hxS
            obtain ⟨y, hy⟩ : ∃ y, (sn m i).at x = y := ⟨_, rfl⟩
            have HY : Hid ((sn m i).at x = y) := hy
            have ATX : Hid (256 * ((sn m i).pg : Int) + (x : Int) * szI ((sn m i).cl : Int) ((sn m i).bts : Int) = (y : Int)) := by show _ = _; rw [AT.out x, hy]
            rw [hy] at ab
            obtain ⟨D, hD⟩ : ∃ D, w3.alloc (.cells #[.int .i64 (y : Nat)] 3) = D := ⟨_, rfl⟩
            have bD : Below w3.heap.size w3 D := by rw [← hD]; exact (Below.refl _ w3).alloc (Nat.le_refl _) _
            have cD : D.cell? ⟨w3.heap.size, 0, none⟩ = some (.int .i64 (y : Nat)) := by rw [← hD]; exact cell_of_row _ _ 0 _ _ _ (Go.heap_alloc_new w3 _)
            have z1 := S3.out.bel.size
            have z2 := bD.size
            obtain ⟨a9, c9, w9, run9, o9, u9, n9⟩ := appI_run wr.heap.size D (by have := T3.out.size; omega) al2 ((A ++ (lsN (F i) x).map (sn m i).at).map Int.ofNat) N2 cl2 (O3.out.keep bD) (by rw [List.length_map]; exact N2'.out) w3.heap.size (y : Int) 1 cD (by rw [List.length_map, N2'.out]; omega)
            have ty : ∀ k cur T, w3.heap[k]? = some (.cells cur T (0, 0)) → T ≠ 3 → ob al2 ≠ some k := fun k cur T hk hT e => by
              have hO := O3.out
              obtain ⟨_, ⟨h1, _⟩ | ⟨g', c', cur', h1, _, h2, _⟩⟩ := hO
              · injection h1 with e1; subst e1; cases e
              · cases h1; cases e
                rw [hk] at h2
                simp at h2
                exact hT h2.2
            have S9 : Hid (Sta w w9 L a ps n c m (updF (clrF F (own.take r)) i (fun y => F i y && decide (x + 1 ≤ y)))) := (S3.out.keep bD).tu u9 (fun k hk => ⟨Z2.out k hk, Nat.le_trans ST.out.bel.size (O3.out.ge k hk), fun e => by
              obtain ⟨_, _, cur, h1⟩ := S3.out.row.ge k e
              exact ty k cur _ h1 (by decide) hk⟩)
            have Q9 : Hid (Sub w w9 L ps own (some ⟨g, 0, none⟩) nq cq) := (Q3.out.keep bD).same (fun k o hk ho => u9.block k o ho (fun e => by
              obtain ⟨_, _, cur, h1⟩ := Q3.out.row.ge k hk
              exact ty k cur _ h1 (by decide) e))
            have O9 : Hid (OwnsI w9 wr.heap.size a9 ((A ++ (lsN (F i) (x + 1)).map (sn m i).at).map Int.ofNat) c9) := by
              show OwnsI _ _ _ _ _
              have e : (A ++ (lsN (F i) (x + 1)).map (sn m i).at) = (A ++ (lsN (F i) x).map (sn m i).at) ++ [(sn m i).at x] := by rw [EQ.out]; simp
              rw [e, List.map_append]
              show OwnsI _ _ _ (_ ++ [Int.ofNat ((sn m i).at x)]) _
              rw [HY.out]; exact o9
            have L9 : Hid ((A ++ (lsN (F i) (x + 1)).map (sn m i).at).length = N2 + 1) := by show _ = _; rw [EQ.out, List.map_append, ← List.append_assoc, List.length_append, N2'.out]; rfl
            have Z9 : Hid (∀ g, ob a9 = some g → L g = 0) := fun k hk => by
              rcases n9 with e | e
              · rw [e] at hk; exact Z2.out k hk
              · rw [e] at hk
                have : D.heap.size = k := Option.some.inj hk
                exact S3.out.high k (by omega)
            have RUN9 : Hid ((Builtin.append_ #[44, 44] 44 #[.slice al2 N2 cl2, .slice (some ⟨w3.heap.size, 0, none⟩) 1 1]).run Tryd.prog D = .ok (.slice a9 (N2 + 1) c9) w9) := run9
            have T9 : Hid (Tu (fun k => L k ≠ 0 ∨ wr.heap.size ≤ k) wr w9) := T3.out.trans ((Tu.ofBelow bD).trans (u9.mono (fun k _ hk => .inr (O3.out.ge k hk))))
            clear LSS bD cD run9 o9 u9 n9 ty hy
            go_wp2_with (first
              | (go_at_call 36; refine (at_in q _ _ _ x _ BX3.out TB3.out.1 RT.out XS.out).mono ?_; rw [ATX.out]; rintro e w' ⟨rfl, rfl⟩)
              | (at_builtin; refine wpList_run rfl 44 rfl _ _ rfl (.slice al2 N2 cl2) (.slice (some ⟨w3.heap.size, 0, none⟩) 1 1) _ _ rfl rfl RUN9.out ?_))
            go_roundw
            case rel => exact ⟨x + 1, N2 + 1, a9, c9, by omega, by congr 1, rfl, L9.out, O9.out, Z9.out, S9.out, Q9.out, T9.out⟩
            case measure => simp [lenW]; omega
        · obtain rfl : x = S := by omega
          have S3 : Hid (Sta w wy L a ps n c m (clrF F (own.take (r + 1)))) := by rw [← SE.out]; exact S2.out
          go_wp2
          go_roundw
          case rel => exact ⟨r + 1, N2, al2, cl2, by omega, by congr 1, rfl, by rw [FE.out]; exact N2'.out, by rw [FE.out]; exact O2.out, Z2.out, S3.out, Q2.out, T2.out⟩
          case measure => simp [lenW]; omega
    · obtain rfl : r = nq := by omega
      have et : own.take r = own := List.take_of_length_le (Nat.le_of_eq HLN.out)
      have FIN : Hid (N = (fromU m F own).length ∧ OwnsI wz wr.heap.size al ((fromU m F own).map Int.ofNat) cl ∧ Sta w wz L a ps n c m (clrF F own)) := by
        have h1 := HN.out
        have h2 := OZ.out
        have h3 := SZ.out
        rw [et] at h1 h2 h3
        exact ⟨h1.symm, h2, h3⟩
      clear et
      go_wp2
      go_ret
      exact ⟨al, cl, by rw [← FIN.out.1]; rfl, FIN.out.2.1, RZ.out, FIN.out.2.2, QZ.out, TZ.out⟩
end Go.Proofs.YtbnmbkohmmiamaaDoor
