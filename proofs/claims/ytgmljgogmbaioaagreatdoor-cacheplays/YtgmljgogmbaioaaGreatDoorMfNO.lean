/- The document's cache: Scavenge. -/
import Derived.Test.YtgmljgogmbaioaaGreatDoorMfJM
namespace Go.Proofs.YtgmljgogmbaioaaGreatDoor
open Go.RowKit
set_option linter.unusedVariables false
set_option maxRecDepth 4000

theorem scav_len (m : List Sg) : (scavM m).length ≤ m.length := List.length_filter_le _ _
set_option maxRecDepth 20000 in
set_option maxHeartbeats 4000000 in
theorem mscav_any (M : Nat → Nat) (rb P W : Nat) (m : List Sg) (w : World) (h : Rf w M rb P W m) (ho : Okc P W m) (h2 : 2 ≤ w.heap.size) :
    Calls Tryz.prog 39 #[.pointer (some ⟨rb, 0, none⟩)] w fun e w' => e = .returned (.int .i64 (scavN m : Nat)) ∧ LeftR M w rb P W (scavM m) w' := by
  have HR : Hid (Rf w M rb P W m) := h
  have HO : Hid (Okc P W m) := ho
  have H2 : Hid (2 ≤ w.heap.size) := h2
  have hP := ho.p1
  have hml := ho.fit.len
  obtain ⟨a, cap, gs, hRm⟩ := h
  have b2 := hRm.box2
  obtain ⟨n, hn⟩ : ∃ n, m.length = n := ⟨_, rfl⟩
  have HN : Hid (m.length = n) := hn
  rw [hn] at b2 hml
  have NS : Hid (∀ t, t ≤ n → scavN (m.drop t) ≤ 65536) := fun t ht => by
    have := free_sum ho.fit
    have e : (m.map Sg.k).sum ≤ P := by omega
    have e2 : scavN (m.drop t) ≤ (m.map Sg.k).sum := by
      unfold scavN
      have q1 : ∀ (l : List Sg) (f : Sg → Bool), ((l.filter f).map Sg.k).sum ≤ (l.map Sg.k).sum := fun l f => by
        induction l with
        | nil => simp
        | cons s l ih =>
          by_cases hf : f s = true
          · rw [List.filter_cons_of_pos hf]; simp; omega
          · rw [List.filter_cons_of_neg hf]; simp; omega
      have q2 : ((m.drop t).map Sg.k).sum ≤ (m.map Sg.k).sum := by
        conv => rhs; rw [← List.take_append_drop t m]
        rw [List.map_append, List.sum_append]; omega
      exact Nat.le_trans (q1 _ _) q2
    show _ ≤ _
    omega
  obtain ⟨RN, hRN⟩ : ∃ RN, scavN m = RN := ⟨_, rfl⟩
  have HRN : Hid (scavN m = RN) := hRN
  rw [hRN]
  clear hRm ho h2 hn hRN
  have wn : IntKind.i64.wrap ((n : Int) - 1) = (n : Int) - 1 := by rw [IntKind.wrap_i64]; omega
  go_enter Tryz.func39, Tryz.ntmps39
  go_wp2_with fail
  go_loopw [3, 4] (fun nv iv wr => ∃ (t x : Nat) (M' : Nat → Nat), t ≤ n ∧ iv = .int .i64 ((t : Int) - 1) ∧ nv = .int .i64 (x : Nat) ∧ scavN (m.drop t) = x ∧ Rf wr M' rb P W (m.take t ++ scavM (m.drop t)) ∧ Mv M w M' wr) (fun _ iv _ => (intOf iv + 1).toNat)
  case atStart => exact ⟨n, 0, M, Nat.le_refl _, rfl, rfl, by rw [List.drop_of_length_le (Nat.le_of_eq HN.out)]; rfl, by rw [List.drop_of_length_le (Nat.le_of_eq HN.out), List.take_of_length_le (Nat.le_of_eq HN.out), show scavM [] = [] from rfl, List.append_nil]; exact HR.out, Mv.refl _ _⟩
  case round =>
    obtain ⟨t, x, M1, ht, rfl, rfl, hx, hRt, hMt⟩ := hrel
    rename World => wr
    have HX : Hid (scavN (m.drop t) = x) := hx
    have HRT : Hid (Rf wr M1 rb P W (m.take t ++ scavM (m.drop t))) := hRt
    have HMT : Hid (Mv M w M1 wr) := hMt
    clear hx hRt hMt
    by_cases ht0 : t = 0
    · subst ht0
      have i0 : ¬ ((0 : Int) ≤ ((0 : Nat) : Int) - 1) := by omega
      have F : Hid (LeftR M w rb P W (scavM m) wr ∧ x = RN) := ⟨⟨M1, by have := HRT.out; simpa using this, HMT.out⟩, by rw [← HX.out, ← HRN.out]; rfl⟩
      go_wp2
      go_ret
      exact ⟨by rw [← F.out.2]; rfl, F.out.1⟩
    · obtain ⟨s, rfl⟩ : ∃ s, t = s + 1 := ⟨t - 1, by omega⟩
      have hsm : s < m.length := by rw [HN.out]; omega
      obtain ⟨sc1, sc2⟩ := scav_step m s hsm
      have OKs := (HO.out.fit.ok _ (List.getElem_mem hsm)).1
      have eX : m.take (s + 1) ++ scavM (m.drop (s + 1)) = m.take s ++ m[s] :: scavM (m.drop (s + 1)) := by rw [List.take_succ_eq_append_getElem hsm, List.append_assoc]; rfl
      have hxs := NS.out (s + 1) ht
      rw [HX.out] at hxs
      obtain ⟨f1, f2, f3, f4, f5, f6, f7, f8⟩ := OKs.facts
      clear f3 f4 f5 f7 f8
      have HK : Hid (pgsN (m[s].cl : Int) (m[s].bts : Int) = m[s].k) := rfl
      obtain ⟨g0, hs⟩ : ∃ g0, m[s] = g0 := ⟨_, rfl⟩
      rw [hs] at sc1 sc2 eX f1 f2 f6 HK
      rw [HX.out] at sc2
      have hA : (m.take s).length = s := by rw [List.length_take]; omega
      obtain ⟨A, hAA⟩ : ∃ A, m.take s = A := ⟨_, rfl⟩
      obtain ⟨B, hBB⟩ : ∃ B, scavM (m.drop (s + 1)) = B := ⟨_, rfl⟩
      have hBl : B.length ≤ 4096 := by rw [← hBB]; have := scav_len (m.drop (s + 1)); rw [List.length_drop, HN.out] at this; omega
      rw [hBB] at HRT
      rw [hAA, hBB] at eX
      rw [hBB] at sc1
      rw [hAA] at hA
      rw [eX] at HRT
      have SC1 : Hid (m.take s ++ scavM (m.drop s) = A ++ ((if g0.st.any (fun x => x != 0) then [g0] else []) ++ B)) := by show _ = _; rw [hAA, sc1]
      have SC2 : Hid (scavN (m.drop s) = (if g0.st.any (fun x => x != 0) then 0 else g0.k) + x) := sc2
      have HA : Hid (A.length = s) := hA
      have HBL : Hid ((A ++ g0 :: B).length ≤ 9000) := by show _ ≤ _; simp; omega
      obtain ⟨a1, cap1, gs1, hRm1⟩ := HRT.out
      have bb2 := hRm1.box2
      obtain ⟨g, q, rfl, hg2, hgl, hq, c0, c1, c2, c3, cq, hMq⟩ := hRm1.mid s hA
      obtain ⟨N, hN⟩ : ∃ N, (A ++ g0 :: B).length = N := ⟨_, rfl⟩
      have hsN : s < N := by rw [← hN]; simp; omega
      have hN9 : N ≤ 9000 := by rw [← hN]; exact HBL.out
      have XL : Hid ((A ++ g0 :: B).length ≤ 4096) := by
        show _ ≤ _
        have e1 := congrArg List.length eX
        have := scav_len (m.drop (s + 1))
        rw [List.length_drop, HN.out] at this
        rw [hBB] at this
        simp
        omega
      rw [hN] at bb2
      have CQ : Hid (∀ j (hj : j < g0.st.length), wr.cell? ⟨q, j, none⟩ = some (.int .i64 (g0.st[j] : Nat))) := fun j hj => st_cell cq j hj
      obtain ⟨L, hL⟩ : ∃ L, g0.st.length = L := ⟨_, rfl⟩
      have HLL : Hid (g0.st.length = L) := hL
      obtain ⟨p, hp⟩ : ∃ p, g0.pg = p := ⟨_, rfl⟩
      obtain ⟨d, hd⟩ : ∃ d, g0.cl = d := ⟨_, rfl⟩
      obtain ⟨b, hb⟩ : ∃ b, g0.bts = b := ⟨_, rfl⟩
      obtain ⟨K, hK⟩ : ∃ K, g0.k = K := ⟨_, rfl⟩
      rw [hp] at c0
      rw [hd] at c1 HK
      rw [hb] at c2 HK
      rw [hL] at c3 f2
      rw [hK] at HK SC2 f6
      have TW : Hid (2 ≤ wr.heap.size) := Nat.le_trans H2.out HMT.out.tu.size
      have es : ((s + 1 : Nat) : Int) - 1 = (s : Int) := by omega
      rw [es]
      have s0 : (0 : Int) ≤ (s : Int) := by omega
      have sN : (s : Int) < (N : Int) := by omega
      have ws : IntKind.i64.wrap ((s : Int) - 1) = (s : Int) - 1 := by rw [IntKind.wrap_i64]; omega
      clear hs hAA hBB hA hRm1 hq cq hMq hg2 hN hL hp hd hb hK OKs sc1 sc2 eX f1 hBl es
      go_wp2_with fail
      go_loopw [5, 27] (fun ev jv wz => ∃ j : Nat, j ≤ L ∧ jv = .int .i64 (j : Nat) ∧ ev = .bool (!(g0.st.take j).any (fun x => x != 0)) ∧ wr = wz) (fun _ jv _ => L - lenW jv)
      case atStart => exact ⟨0, Nat.zero_le _, rfl, by simp, rfl⟩
      case round =>
        obtain ⟨j, hj, rfl, rfl, rfl⟩ := hrel
        by_cases hjL : j < L
        · have hjs : j < g0.st.length := by rw [HLL.out]; exact hjL
          have cj := CQ.out j hjs
          have ex : (g0.st.take (j + 1)).any (fun x => x != 0) = ((g0.st.take j).any (fun x => x != 0) || (g0.st[j] != 0)) := by rw [List.take_succ_eq_append_getElem hjs, List.any_append]; simp
          obtain ⟨y, hy⟩ : ∃ y, g0.st[j] = y := ⟨_, rfl⟩
          rw [hy] at cj ex
          have EX : Hid ((g0.st.take (j + 1)).any (fun x => x != 0) = ((g0.st.take j).any (fun x => x != 0) || (y != 0))) := ex
          have j0 : (j : Int) < (L : Int) := by omega
          obtain ⟨o, ho⟩ : ∃ o, (g0.st.take j).any (fun x => x != 0) = o := ⟨_, rfl⟩
          rw [ho] at EX ⊢
          clear hy ex ho hjs
          cases o with
          | true =>
            have E2 : Hid ((g0.st.take (j + 1)).any (fun x => x != 0) = true) := by show _ = _; rw [EX.out]; rfl
            go_wp2
            go_roundw
            case rel => exact ⟨j + 1, by omega, by congr 1, by rw [E2.out]; rfl, by trivial⟩
            case measure => simp [lenW]; omega
          | false =>
            by_cases hy0 : y = 0
            · have e1 : ((y : Int) == 0) = true := by rw [beq_iff_eq]; omega
              have E2 : Hid ((g0.st.take (j + 1)).any (fun x => x != 0) = false) := by show _ = _; rw [EX.out, hy0]; rfl
              clear hy0
              go_wp2
              go_roundw
              case rel => exact ⟨j + 1, by omega, by congr 1, by rw [E2.out]; rfl, by trivial⟩
              case measure => simp [lenW]; omega
            · have e1 : ((y : Int) == 0) = false := by rw [beq_eq_false_iff_ne]; omega
              have E2 : Hid ((g0.st.take (j + 1)).any (fun x => x != 0) = true) := by show _ = _; rw [EX.out]; simp [hy0]
              clear hy0
              go_wp2
              go_roundw
              case rel => exact ⟨j + 1, by omega, by congr 1, by rw [E2.out]; rfl, by trivial⟩
              case measure => simp [lenW]; omega
        · obtain rfl : j = L := by omega
          have et : g0.st.take j = g0.st := List.take_of_length_le (Nat.le_of_eq HLL.out)
          rw [et]
          obtain ⟨o, ho⟩ : ∃ o, g0.st.any (fun x => x != 0) = o := ⟨_, rfl⟩
          rw [ho] at SC1 SC2 ⊢
          clear et ho
          cases o with
          | true =>
            have N1 : Hid (scavN (m.drop s) = x) := by show _ = _; rw [SC2.out]; simp
            have N2 : Hid (Rf wr M1 rb P W (m.take s ++ scavM (m.drop s))) := by show Rf _ _ _ _ _ _; rw [SC1.out]; simpa using HRT.out
            go_wp2
            go_roundw
            case rel => exact ⟨s, x, M1, by omega, rfl, rfl, N1.out, N2.out, HMT.out⟩
            case measure => simp [intOf]
          | false =>
            have N1 : Hid (scavN (m.drop s) = x + K) := by show _ = _; rw [SC2.out]; simp; omega
            have EL : Hid ((A ++ g0 :: B).take s ++ (A ++ g0 :: B).drop (s + 1) = m.take s ++ scavM (m.drop s)) := by
              show _ = _
              rw [SC1.out, ← HA.out]
              simp
            have SL : Hid (s < (A ++ g0 :: B).length) := by have := HA.out; show _ < _; simp; omega
            go_wp2_with (first
              | (go_at_call 32; refine (mpages_any p d b q j _ K HK.out).mono ?_; rintro e w5 ⟨rfl, b5⟩; have R5 : Hid (Rf w5 M1 rb P W (A ++ g0 :: B)) := HRT.out.below TW.out b5; have T5 : Hid (2 ≤ w5.heap.size) := Nat.le_trans TW.out b5.size; have M5 : Hid (Mv M w M1 w5) := HMT.out.trans (Mv.below (Ext.refl _ _) b5); clear b5)
              | (have g9 := R5; go_at_call 71; refine (mdrop_any M1 rb P W (A ++ g0 :: B) s _ R5.out T5.out SL.out XL.out).mono ?_; rw [EL.out]; rintro e w6 ⟨rfl, M6, r6, m6⟩; have R6 : Hid (Rf w6 M6 rb P W (m.take s ++ scavM (m.drop s))) := r6; have MM6 : Hid (Mv M w M6 w6) := M5.out.trans m6; clear r6 m6))
            go_roundw
            case rel => exact ⟨s, x + K, M6, by omega, rfl, by congr 1, N1.out, R6.out, MM6.out⟩
            case measure => simp [intOf]
end Go.Proofs.YtgmljgogmbaioaaGreatDoor

/- The document's cache: Data. -/
namespace Go.Proofs.YtgmljgogmbaioaaGreatDoor
open Go.RowKit
set_option linter.unusedVariables false
set_option maxRecDepth 4000

/-- A span as the document tells it. -/
def oneF (s : Sg) : Nat → Bool := fun j => decide (s.st.getD j 0 = 1)
def tellM (s : Sg) : Td := ⟨(s.pg : Int), (s.cl : Int), (s.bts : Int), lsL (oneF s) (slN (s.cl : Int))⟩
theorem tell_same {W P : Nat} {m : List Sg} (hf : Fit W P 0 m) : m.map (tellT W m) = m.map tellM := by
  apply List.ext_getElem (by simp)
  intro i h1 h2
  have hi : i < m.length := by simpa using h1
  simp only [List.getElem_map]
  unfold tellT tellM
  rw [tell_ones hf i hi]
  rfl
theorem lsL_le (f : Nat → Bool) (n : Nat) : (lsL f n).length ≤ n := by rw [lsL_len]; exact cnt_le f n
/-- A span that is being told, in its box: its numbers, and its list so far. -/
def Dx (w : World) (g p d b : Nat) (al : Option Addr) (n cl : Nat) : Prop := w.heap[g]? = some (.cells (dcells (p : Nat) (d : Nat) (b : Nat) al n cl) 48 (0, 0))
theorem Dx.put {w : World} {g p d b : Nat} {al al' : Option Addr} {n cl n' cl' : Nat} (h : Dx w g p d b al n cl) : Dx (w.setCell ⟨g, 3, none⟩ (.slice al' n' cl')) g p d b al' n' cl' := by
  unfold Dx
  rw [heap_put h]
  simp [dcells]
/-- Rows of numbers and of spans are told apart by their kind. -/
theorem own_ne_box {w : World} {B g : Nat} {al : Option Addr} {l : List Int} {cl : Nat} {cs : Array Value} {T : TypeId} (h : OwnsI w B al l cl) (hg : w.heap[g]? = some (.cells cs T (0, 0))) (hT : T ≠ 3) : ob al ≠ some g := by
  intro e
  obtain ⟨_, ⟨h1, _⟩ | ⟨g', c', cur, h1, _, h2, _⟩⟩ := h
  · injection h1 with e1; subst e1; cases e
  · cases h1; cases e
    rw [hg] at h2
    simp at h2
    exact hT h2.2
/-- Within a round over the slots of a span. -/
structure InD (wr wz : World) (xb yb p d b q L Bn : Nat) (al : Option Addr) (cl : Nat) (l : List Int) (n : Nat) : Prop where
  bel : Below wr.heap.size wr wz
  bx : Bx4 wz xb p d b q L
  dx : Dx wz yb p d b al n cl
  own : OwnsI wz Bn al l cl
  lx : wr.heap.size ≤ xb
  ly : wr.heap.size ≤ yb
  xy : xb ≠ yb
  bx' : xb < Bn
  by' : yb < Bn
  bn : Bn ≤ wz.heap.size
  len : l.length = n
theorem InD.app {wr wz w' : World} {xb yb p d b q L Bn : Nat} {al a' : Option Addr} {cl c' : Nat} {l : List Int} {n : Nat} {x : Int} (h : InD wr wz xb yb p d b q L Bn al cl l n) (D : World) (bD : Below wz.heap.size wz D) (t : Tu (fun k => ob al = some k) D w') (o : OwnsI w' Bn a' (l ++ [x]) c') :
    InD wr (w'.setCell ⟨yb, 3, none⟩ (.slice a' (n + 1) c')) xb yb p d b q L Bn a' c' (l ++ [x]) (n + 1) ∧ w'.cell? ⟨yb, 3, none⟩ = some (.slice al n cl) ∧ w'.frozen? ⟨yb, 3, none⟩ = false := by
  have ge : ∀ k, ob al = some k → Bn ≤ k := h.own.ge
  have x1 : w'.heap[xb]? = some (.cells #[.int .i64 (p : Nat), .int .i64 (d : Nat), .int .i64 (b : Nat), .slice (some ⟨q, 0, none⟩) L L] 75 (0, 0)) := t.block xb _ (bblock bD h.bx) (fun e => by have := ge xb e; have := h.bx'; omega)
  have y1 : w'.heap[yb]? = some (.cells (dcells (p : Nat) (d : Nat) (b : Nat) al n cl) 48 (0, 0)) := t.block yb _ (bblock bD h.dx) (fun e => by have := ge yb e; have := h.by'; omega)
  have on : Only yb w' (w'.setCell ⟨yb, 3, none⟩ (.slice a' (n + 1) c')) := Only.set yb 3 _ w'
  have sz : Bn ≤ D.heap.size := Nat.le_trans h.bn bD.size
  have hBw : wr.heap.size ≤ Bn := by have := h.lx; have := h.bx'; omega
  have hwz := h.bel.size
  refine ⟨⟨?_, ?_, Dx.put y1, ?_, h.lx, h.ly, h.xy, h.bx', h.by', ?_, by rw [List.length_append, h.len]; rfl⟩, dcell3 y1, frozen_of_row _ _ _ _ _ y1⟩
  · exact h.bel.trans ((bD.mono hwz).trans (((t.below (B := Bn) (fun i e => ge i e) sz).mono hBw).trans (on.below h.ly)))
  · unfold Bx4; rw [on.block _ h.xy]; exact x1
  · obtain ⟨h0, h1 | ⟨g, c'', cur, h1, hb, h3, h4⟩⟩ := o
    · exact ⟨h0, .inl h1⟩
    · exact ⟨h0, .inr ⟨g, c'', cur, h1, hb, by rw [on.block g (by have := h.by'; omega)]; exact h3, h4⟩⟩
  · rw [on.size]; exact Nat.le_trans sz t.size
set_option maxRecDepth 20000 in
set_option maxHeartbeats 4000000 in
theorem mdata_any (M : Nat → Nat) (rb P W : Nat) (m : List Sg) (w : World) (h : Rf w M rb P W m) (ho : Okc P W m) (h2 : 2 ≤ w.heap.size) :
    Calls Tryz.prog 40 #[.pointer (some ⟨rb, 0, none⟩)] w fun e w' => ∃ v, e = .returned v ∧ Told w' w.heap.size v (m.map tellM) ∧ Below w.heap.size w w' := by
  obtain ⟨a, cap, gs, hR⟩ := h
  have HR : Hid (Rm w M rb a cap gs P W m) := hR
  have HO : Hid (Okc P W m) := ho
  have b2 := hR.box2
  have hml := ho.fit.len
  have hP := ho.p1
  obtain ⟨n, hn⟩ : ∃ n, m.length = n := ⟨_, rfl⟩
  have HN : Hid (m.length = n) := hn
  rw [hn] at b2 hml
  clear hR ho hn h2
  go_enter Tryz.func40, Tryz.ntmps40
  go_wp2_with fail
  go_loopw [3, 13] (fun lv iv wr => ∃ (k : Nat) (av : Option Addr) (cv : Nat), k ≤ n ∧ iv = .int .i64 (k : Nat) ∧ lv = .slice av k cv ∧ Told wr w.heap.size (.slice av k cv) ((m.take k).map tellM) ∧ Below w.heap.size w wr) (fun _ iv _ => n - lenW iv)
  case atStart => exact ⟨0, none, 0, Nat.zero_le _, rfl, rfl, Told.nil _ _, Below.refl _ _⟩
  case round =>
    obtain ⟨k, av, cv, hk, rfl, rfl, ht, hb⟩ := hrel
    rename World => wr
    have HT : Hid (Told wr w.heap.size (.slice av k cv) ((m.take k).map tellM)) := ht
    have HB : Hid (Below w.heap.size w wr) := hb
    clear ht hb
    by_cases hkn : k < n
    · have hkm : k < m.length := by rw [HN.out]; exact hkn
      obtain ⟨g, q, rfl, hg2, hgl, hq, n0, n1, n2, n3, cq, hMq⟩ := HR.out.at k hkm
      have c0 := bcell HB.out n0
      have c1 := bcell HB.out n1
      have c2 := bcell HB.out n2
      have c3 := bcell HB.out n3
      clear n0 n1 n2 n3
      have OK := (HO.out.fit.ok _ (List.getElem_mem hkm)).1
      have ET : (m.take k).map tellM ++ [tellM m[k]] = (m.take (k + 1)).map tellM := by rw [List.take_add_one, List.map_append, List.getElem?_eq_getElem hkm]; rfl
      obtain ⟨s, hs⟩ : ∃ s, m[k] = s := ⟨_, rfl⟩
      rw [hs] at c0 c1 c2 c3 cq OK ET
      obtain ⟨f1, f2, _⟩ := OK.facts
      have hlen := OK.len
      have TM : tellM s = ⟨(s.pg : Int), (s.cl : Int), (s.bts : Int), lsL (oneF s) s.st.length⟩ := by unfold tellM; rw [hlen]
      rw [TM] at ET
      have CQ : Hid (∀ w', Below w.heap.size w w' → ∀ j (hj : j < s.st.length), w'.cell? ⟨q, j, none⟩ = some (.int .i64 (s.st[j] : Nat))) := fun w' hb j hj => bcell hb (st_cell cq j hj)
      obtain ⟨p, hp⟩ : ∃ p, s.pg = p := ⟨_, rfl⟩
      obtain ⟨d, hd⟩ : ∃ d, s.cl = d := ⟨_, rfl⟩
      obtain ⟨b, hb⟩ : ∃ b, s.bts = b := ⟨_, rfl⟩
      obtain ⟨L, hL⟩ : ∃ L, s.st.length = L := ⟨_, rfl⟩
      have HLL : Hid (s.st.length = L) := hL
      rw [hp] at c0 ET
      rw [hd] at c1 ET
      rw [hb] at c2 ET
      rw [hL] at c3 f2 ET
      have HET : Hid ((m.take k).map tellM ++ [⟨(p : Int), (d : Int), (b : Int), lsL (oneF s) L⟩] = (m.take (k + 1)).map tellM) := ET
      have LS : Hid (∀ j (hj : j < s.st.length), lsL (oneF s) (j + 1) = lsL (oneF s) j ++ (if s.st[j] = 1 then [(j : Int)] else [])) := fun j hj => by
        rw [lsL]
        unfold oneF
        simp [List.getD_eq_getElem?_getD, List.getElem?_eq_getElem hj]
      obtain ⟨E1, hE1⟩ : ∃ E1, mbox wr p d b q L = E1 := ⟨_, rfl⟩
      have HE1 : Hid (wr.alloc (.cells #[.int .i64 (p : Nat), .int .i64 (d : Nat), .int .i64 (b : Nat), .slice (some ⟨q, 0, none⟩) L L] 75) = E1) := hE1
      have B1 : Below wr.heap.size wr E1 := by rw [← hE1]; exact mbox_below _ _ _ _ _ _
      have X1 : Bx4 E1 wr.heap.size p d b q L := by rw [← hE1]; exact mbox_4 _ _ _ _ _ _
      have z1 : E1.heap.size = wr.heap.size + 1 := by rw [← hE1]; simp [mbox]
      obtain ⟨E2, hE2⟩ : ∃ E2, E1.alloc (.cells (dcells (p : Nat) (d : Nat) (b : Nat) none 0 0) 48) = E2 := ⟨_, rfl⟩
      have HE2 : Hid (E1.alloc (.cells #[.int .i64 (p : Nat), .int .i64 (d : Nat), .int .i64 (b : Nat), .slice none 0 0] 48) = E2) := hE2
      have B2 : Below E1.heap.size E1 E2 := by rw [← hE2]; exact (Below.refl _ E1).alloc (Nat.le_refl _) _
      have z2 : E2.heap.size = wr.heap.size + 2 := by rw [← hE2]; simp; omega
      have IN0 : Hid (InD wr E2 wr.heap.size E1.heap.size p d b q L E2.heap.size none 0 [] 0) := ⟨B1.trans (B2.mono B1.size), X1.keep B2, by unfold Dx; rw [← hE2]; exact Go.heap_alloc_new E1 _, ownsI_none _ _, Nat.le_refl _, B1.size, by omega, by omega, by omega, Nat.le_refl _, rfl⟩
      obtain ⟨yb, hyb⟩ : ∃ yb, E1.heap.size = yb := ⟨_, rfl⟩
      rw [hyb] at IN0
      obtain ⟨e0, e1, e2, e3⟩ := X1.cells
      have k0 : (k : Int) < (n : Int) := by omega
      clear hs hp hd hb hL OK TM ET hlen cq hMq hg2 hq hkm f1 hE1 B1 hE2 B2 z1 z2 X1
      go_upto_region 5 with (fail)
      rw [HE1.out]
      go_upto_region 6 with (fail)
      (try rw [HE2.out])
      (try rw [hyb])
      clear e0 e1 e2 e3
      obtain ⟨d0, d1, d2, d3⟩ := IN0.out.bx.cells
      go_wp2_with fail
      go_loopw [27] (fun jv wz => ∃ (j N : Nat) (al : Option Addr) (cl : Nat), j ≤ L ∧ jv = .int .i64 (j : Nat) ∧ InD wr wz wr.heap.size yb p d b q L E2.heap.size al cl (lsL (oneF s) j) N) (fun jv _ => L - lenW jv)
      case atStart => exact ⟨0, 0, none, 0, Nat.zero_le _, rfl, IN0.out⟩
      case round =>
        clear d0 d1 d2 d3
        obtain ⟨j, N, al, cl, hj, rfl, hI⟩ := hrel
        rename World => wz
        have HI : Hid (InD wr wz wr.heap.size yb p d b q L E2.heap.size al cl (lsL (oneF s) j) N) := hI
        obtain ⟨d0, d1, d2, d3⟩ := hI.bx.cells
        have y3 := dcell3 hI.dx
        by_cases hjL : j < L
        · have hjs : j < s.st.length := by rw [HLL.out]; exact hjL
          have cj := CQ.out wz (HB.out.trans (hI.bel.mono HB.out.size)) j hjs
          have STEP := LS.out j hjs
          obtain ⟨y, hy⟩ : ∃ y, s.st[j] = y := ⟨_, rfl⟩
          rw [hy] at cj STEP
          have j0 : (j : Int) < (L : Int) := by omega
          by_cases hy1 : y = 1
          · have e1 : ((y : Int) == 1) = true := by rw [beq_iff_eq]; omega
            rw [if_pos hy1] at STEP
            have HST : Hid (lsL (oneF s) (j + 1) = lsL (oneF s) j ++ [(j : Int)]) := STEP
            obtain ⟨D, hD⟩ : ∃ D, wz.alloc (.cells #[.int .i64 (j : Nat)] 3) = D := ⟨_, rfl⟩
            have bD : Below wz.heap.size wz D := by rw [← hD]; exact (Below.refl _ wz).alloc (Nat.le_refl _) _
            have cD : D.cell? ⟨wz.heap.size, 0, none⟩ = some (.int .i64 (j : Nat)) := by rw [← hD]; exact cell_of_row _ _ 0 _ _ _ (Go.heap_alloc_new wz _)
            obtain ⟨a9, c9, w9, run9, o9, u9, n9⟩ := appI_run E2.heap.size D (Nat.le_trans hI.bn bD.size) al (lsL (oneF s) j) N cl (hI.own.keep bD) hI.len wz.heap.size (j : Int) 1 cD (by have := lsL_le (oneF s) j; omega)
            obtain ⟨I9, r3, fz⟩ := hI.app D bD u9 o9
            have HI9 : Hid (InD wr (w9.setCell ⟨yb, 3, none⟩ (.slice a9 (N + 1) c9)) wr.heap.size yb p d b q L E2.heap.size a9 c9 (lsL (oneF s) j ++ [(j : Int)]) (N + 1)) := I9
            have RUN9 : Hid ((Builtin.append_ #[34, 34] 34 #[.slice al N cl, .slice (some ⟨wz.heap.size, 0, none⟩) 1 1]).run Tryz.prog D = .ok (.slice a9 (N + 1) c9) w9) := run9
            clear hI hy hjs hy1 STEP bD cD run9 o9 u9 n9 I9
            go_wp2_with (at_builtin; refine wpList_runi rfl rfl _ _ rfl (.slice al N cl) (.slice (some ⟨wz.heap.size, 0, none⟩) 1 1) _ _ rfl rfl RUN9.out ?_)
            go_roundw
            case rel => exact ⟨j + 1, N + 1, a9, c9, by omega, by congr 1, by rw [HST.out]; exact HI9.out⟩
            case measure => simp [lenW]; omega
          · have e1 : ((y : Int) == 1) = false := by rw [beq_eq_false_iff_ne]; omega
            rw [if_neg hy1, List.append_nil] at STEP
            have HST : Hid (lsL (oneF s) (j + 1) = lsL (oneF s) j) := STEP
            clear hI hy hjs hy1 STEP
            go_wp2
            go_roundw
            case rel => exact ⟨j + 1, N, al, cl, by omega, by congr 1, by rw [HST.out]; exact HI.out⟩
            case measure => simp [lenW]; omega
        · obtain rfl : j = L := by omega
          have y0 := dcell0 hI.dx
          have y1 := dcell1 hI.dx
          have y2 := dcell2 hI.dx
          obtain ⟨l, hl⟩ : ∃ l, lsL (oneF s) j = l := ⟨_, rfl⟩
          rw [hl] at HI HET
          obtain ⟨D, hD⟩ : ∃ D, wz.alloc (.cells #[.int .i64 (p : Nat), .int .i64 (d : Nat), .int .i64 (b : Nat), .slice al N cl] 48) = D := ⟨_, rfl⟩
          have bD : Below wz.heap.size wz D := by rw [← hD]; exact (Below.refl _ wz).alloc (Nat.le_refl _) _
          have RD : Hid (D.heap[wz.heap.size]? = some (.cells (dcells (p : Nat) (d : Nat) (b : Nat) al N cl) 48 (0, 0))) := by show _ = _; rw [← hD]; exact Go.heap_alloc_new wz _
          have B0 : Below wr.heap.size wr D := HI.out.bel.trans (bD.mono HI.out.bel.size)
          have TD : Hid (Told D w.heap.size (.slice av k cv) ((m.take k).map tellM)) := HT.out.keep B0
          have BD : Hid (Below w.heap.size w D) := HB.out.trans (B0.mono HB.out.size)
          have OD : Hid (OwnsI D w.heap.size al l cl) := (HI.out.own.keep bD).mono (by have := HI.out.lx; have := HI.out.bx'; have := HB.out.size; omega)
          have NL : Hid (l.length = N) := HI.out.len
          have KL : Hid (((m.take k).map tellM).length = k) := by show _ = _; rw [List.length_map, List.length_take, HN.out]; omega
          have LN : Hid (((m.take k).map tellM).length ≤ 100000) := by show _ ≤ _; rw [KL.out]; omega
          clear hI bD B0 hl
          go_wp2_with (at_builtin; refine wpList_told rfl _ _ rfl w.heap.size BD.out.size av k cv ((m.take k).map tellM) rfl KL.out TD.out _ 1 ⟨⟨(p : Int), (d : Int), (b : Int), l⟩, al, cl⟩ N NL.out rfl RD.out OD.out LN.out ?_; intro a4 c4 w4 t4 b4; have T4 : Hid (Told w4 w.heap.size (.slice a4 (k + 1) c4) ((m.take (k + 1)).map tellM)) := (by rw [← HET.out]; exact t4); have B4 : Hid (Below w.heap.size w w4) := BD.out.trans b4; clear t4 b4)
          go_roundw
          case rel => exact ⟨k + 1, a4, c4, by omega, by congr 1, rfl, T4.out, B4.out⟩
          case measure => simp [lenW]; omega
    · obtain rfl : k = n := by omega
      have F : Hid (Told wr w.heap.size (.slice av k cv) (m.map tellM)) := by
        have := HT.out
        rw [List.take_of_length_le (Nat.le_of_eq HN.out)] at this
        exact this
      go_wp2
      go_ret
      exact ⟨_, rfl, F.out, HB.out⟩
end Go.Proofs.YtgmljgogmbaioaaGreatDoor
