/- The document's cache: Scavenge. -/
import Derived.Test.YtgmljgogmbaioaaGreatDoorMfJM
import Derived.Test.YtgmljgogmbaioaaGreatDoorMfAC
import Derived.Test.YtgmljgogmbaioaaGreatDoorSpUN
namespace Go.Proofs.YtgmljgogmbaioaaGreatDoor
open Go.RowKit
set_option linter.unusedVariables false
set_option maxRecDepth 4000

theorem scav_len (m : List Sg) : (scavM m).length ≤ m.length := List.length_filter_le _ _
set_option maxRecDepth 20000 in
set_option maxHeartbeats 4000000 in
theorem mscav_any (M : Nat → Nat) (rb P W : Nat) (m : List Sg) (w : World) (h : Rf w M rb P W m) (ho : Okc P W m) (h2 : 2 ≤ w.heap.size) :
    Calls Tryz.prog 39 #[.pointer (some ⟨rb, 0, none⟩)] w fun e w' => e = .returned (.int .i64 (scavN m : Nat)) ∧ LeftR M w rb P W (scavM m) w' := by
  have HR : Hid (Rf w M rb P W m) := h
  have HO : Hid (Okc P W m) := ho
  have H2 : Hid (2 ≤ w.heap.size) := h2
  have hP := ho.p1
  have hml := ho.fit.len
  obtain ⟨a, cap, gs, hRm⟩ := h
  have b2 := hRm.box2
  obtain ⟨n, hn⟩ : ∃ n, m.length = n := ⟨_, rfl⟩
  have HN : Hid (m.length = n) := hn
  rw [hn] at b2 hml
  have NS : Hid (∀ t, t ≤ n → scavN (m.drop t) ≤ 65536) := fun t ht => by
    have := free_sum ho.fit
    have e : (m.map Sg.k).sum ≤ P := by omega
    have e2 : scavN (m.drop t) ≤ (m.map Sg.k).sum := by
      unfold scavN
      have q1 : ∀ (l : List Sg) (f : Sg → Bool), ((l.filter f).map Sg.k).sum ≤ (l.map Sg.k).sum := fun l f => by
        induction l with
        | nil => simp
        | cons s l ih =>
          by_cases hf : f s = true
          · rw [List.filter_cons_of_pos hf]; simp; omega
          · rw [List.filter_cons_of_neg hf]; simp; omega
      have q2 : ((m.drop t).map Sg.k).sum ≤ (m.map Sg.k).sum := by
        conv => rhs; rw [← List.take_append_drop t m]
        rw [List.map_append, List.sum_append]; omega
      exact Nat.le_trans (q1 _ _) q2
    show _ ≤ _
    omega
  obtain ⟨RN, hRN⟩ : ∃ RN, scavN m = RN := ⟨_, rfl⟩
  have HRN : Hid (scavN m = RN) := hRN
  rw [hRN]
  clear hRm ho h2 hn hRN
  have wn : IntKind.i64.wrap ((n : Int) - 1) = (n : Int) - 1 := by rw [IntKind.wrap_i64]; omega
  go_enter Tryz.func39, Tryz.ntmps39
  go_wp2_with fail
  go_loopw [3, 4] (fun nv iv wr => ∃ (t x : Nat) (M' : Nat → Nat), t ≤ n ∧ iv = .int .i64 ((t : Int) - 1) ∧ nv = .int .i64 (x : Nat) ∧ scavN (m.drop t) = x ∧ Rf wr M' rb P W (m.take t ++ scavM (m.drop t)) ∧ Mv M w M' wr) (fun _ iv _ => (intOf iv + 1).toNat)
  case atStart => exact ⟨n, 0, M, Nat.le_refl _, rfl, rfl, by rw [List.drop_of_length_le (Nat.le_of_eq HN.out)]; rfl, by rw [List.drop_of_length_le (Nat.le_of_eq HN.out), List.take_of_length_le (Nat.le_of_eq HN.out), show scavM [] = [] from rfl, List.append_nil]; exact HR.out, Mv.refl _ _⟩
  case round =>
    obtain ⟨t, x, M1, ht, rfl, rfl, hx, hRt, hMt⟩ := hrel
    rename World => wr
    have HX : Hid (scavN (m.drop t) = x) := hx
    have HRT : Hid (Rf wr M1 rb P W (m.take t ++ scavM (m.drop t))) := hRt
    have HMT : Hid (Mv M w M1 wr) := hMt
    clear hx hRt hMt
    by_cases ht0 : t = 0
    · subst ht0
      have i0 : ¬ ((0 : Int) ≤ ((0 : Nat) : Int) - 1) := by omega
      have F : Hid (LeftR M w rb P W (scavM m) wr ∧ x = RN) := ⟨⟨M1, by have := HRT.out; simpa using this, HMT.out⟩, by rw [← HX.out, ← HRN.out]; rfl⟩
      go_wp2
      go_ret
      exact ⟨by rw [← F.out.2]; rfl, F.out.1⟩
    · obtain ⟨s, rfl⟩ : ∃ s, t = s + 1 := ⟨t - 1, by omega⟩
      have hsm : s < m.length := by rw [HN.out]; omega
      obtain ⟨sc1, sc2⟩ := scav_step m s hsm
      have OKs := (HO.out.fit.ok _ (List.getElem_mem hsm)).1
      have eX : m.take (s + 1) ++ scavM (m.drop (s + 1)) = m.take s ++ m[s] :: scavM (m.drop (s + 1)) := by rw [List.take_succ_eq_append_getElem hsm, List.append_assoc]; rfl
      have hxs := NS.out (s + 1) ht
      rw [HX.out] at hxs
      obtain ⟨f1, f2, f3, f4, f5, f6, f7, f8⟩ := OKs.facts
      clear f3 f4 f5 f7 f8
      have HK : Hid (pgsN (m[s].cl : Int) (m[s].bts : Int) = m[s].k) := rfl
      obtain ⟨g0, hs⟩ : ∃ g0, m[s] = g0 := ⟨_, rfl⟩
      rw [hs] at sc1 sc2 eX f1 f2 f6 HK
      rw [HX.out] at sc2
      have hA : (m.take s).length = s := by rw [List.length_take]; omega
      obtain ⟨A, hAA⟩ : ∃ A, m.take s = A := ⟨_, rfl⟩
      obtain ⟨B, hBB⟩ : ∃ B, scavM (m.drop (s + 1)) = B := ⟨_, rfl⟩
      have hBl : B.length ≤ 4096 := by rw [← hBB]; have := scav_len (m.drop (s + 1)); rw [List.length_drop, HN.out] at this; omega
      rw [hBB] at HRT
      rw [hAA, hBB] at eX
      rw [hBB] at sc1
      rw [hAA] at hA
      rw [eX] at HRT
      have SC1 : Hid (m.take s ++ scavM (m.drop s) = A ++ ((if g0.st.any (fun x => x != 0) then [g0] else []) ++ B)) := by show _ = _; rw [hAA, sc1]
      have SC2 : Hid (scavN (m.drop s) = (if g0.st.any (fun x => x != 0) then 0 else g0.k) + x) := sc2
      have HA : Hid (A.length = s) := hA
      have HBL : Hid ((A ++ g0 :: B).length ≤ 9000) := by show _ ≤ _; simp; omega
      obtain ⟨a1, cap1, gs1, hRm1⟩ := HRT.out
      have bb2 := hRm1.box2
      obtain ⟨g, q, rfl, hg2, hgl, hq, c0, c1, c2, c3, cq, hMq⟩ := hRm1.mid s hA
      obtain ⟨N, hN⟩ : ∃ N, (A ++ g0 :: B).length = N := ⟨_, rfl⟩
      have hsN : s < N := by rw [← hN]; simp; omega
      have hN9 : N ≤ 9000 := by rw [← hN]; exact HBL.out
      have XL : Hid ((A ++ g0 :: B).length ≤ 4096) := by
        show _ ≤ _
        have e1 := congrArg List.length eX
        have := scav_len (m.drop (s + 1))
        rw [List.length_drop, HN.out] at this
        rw [hBB] at this
        simp
        omega
      rw [hN] at bb2
      have CQ : Hid (∀ j (hj : j < g0.st.length), wr.cell? ⟨q, j, none⟩ = some (.int .i64 (g0.st[j] : Nat))) := fun j hj => st_cell cq j hj
      obtain ⟨L, hL⟩ : ∃ L, g0.st.length = L := ⟨_, rfl⟩
      have HLL : Hid (g0.st.length = L) := hL
      obtain ⟨p, hp⟩ : ∃ p, g0.pg = p := ⟨_, rfl⟩
      obtain ⟨d, hd⟩ : ∃ d, g0.cl = d := ⟨_, rfl⟩
      obtain ⟨b, hb⟩ : ∃ b, g0.bts = b := ⟨_, rfl⟩
      obtain ⟨K, hK⟩ : ∃ K, g0.k = K := ⟨_, rfl⟩
      rw [hp] at c0
      rw [hd] at c1 HK
      rw [hb] at c2 HK
      rw [hL] at c3 f2
      rw [hK] at HK SC2 f6
      have TW : Hid (2 ≤ wr.heap.size) := Nat.le_trans H2.out HMT.out.tu.size
      have es : ((s + 1 : Nat) : Int) - 1 = (s : Int) := by omega
      rw [es]
      have s0 : (0 : Int) ≤ (s : Int) := by omega
      have sN : (s : Int) < (N : Int) := by omega
      have ws : IntKind.i64.wrap ((s : Int) - 1) = (s : Int) - 1 := by rw [IntKind.wrap_i64]; omega
      clear hs hAA hBB hA hRm1 hq cq hMq hg2 hN hL hp hd hb hK OKs sc1 sc2 eX f1 hBl es
      go_wp2_with fail
      go_loopw [5, 27] (fun ev jv wz => ∃ j : Nat, j ≤ L ∧ jv = .int .i64 (j : Nat) ∧ ev = .bool (!(g0.st.take j).any (fun x => x != 0)) ∧ wr = wz) (fun _ jv _ => L - lenW jv)
      case atStart => exact ⟨0, Nat.zero_le _, rfl, by simp, rfl⟩
      case round =>
        obtain ⟨j, hj, rfl, rfl, rfl⟩ := hrel
        by_cases hjL : j < L
        · have hjs : j < g0.st.length := by rw [HLL.out]; exact hjL
          have cj := CQ.out j hjs
          have ex : (g0.st.take (j + 1)).any (fun x => x != 0) = ((g0.st.take j).any (fun x => x != 0) || (g0.st[j] != 0)) := by rw [List.take_succ_eq_append_getElem hjs, List.any_append]; simp
          obtain ⟨y, hy⟩ : ∃ y, g0.st[j] = y := ⟨_, rfl⟩
          rw [hy] at cj ex
          have EX : Hid ((g0.st.take (j + 1)).any (fun x => x != 0) = ((g0.st.take j).any (fun x => x != 0) || (y != 0))) := ex
          have j0 : (j : Int) < (L : Int) := by omega
          obtain ⟨o, ho⟩ : ∃ o, (g0.st.take j).any (fun x => x != 0) = o := ⟨_, rfl⟩
          rw [ho] at EX ⊢
          clear hy ex ho hjs
          cases o with
          | true =>
            have E2 : Hid ((g0.st.take (j + 1)).any (fun x => x != 0) = true) := by show _ = _; rw [EX.out]; rfl
            go_wp2
            go_roundw
            case rel => exact ⟨j + 1, by omega, by congr 1, by rw [E2.out]; rfl, by trivial⟩
            case measure => simp [lenW]; omega
          | false =>
            by_cases hy0 : y = 0
            · have e1 : ((y : Int) == 0) = true := by rw [beq_iff_eq]; omega
              have E2 : Hid ((g0.st.take (j + 1)).any (fun x => x != 0) = false) := by show _ = _; rw [EX.out, hy0]; rfl
              clear hy0
              go_wp2
              go_roundw
              case rel => exact ⟨j + 1, by omega, by congr 1, by rw [E2.out]; rfl, by trivial⟩
              case measure => simp [lenW]; omega
            · have e1 : ((y : Int) == 0) = false := by rw [beq_eq_false_iff_ne]; omega
              have E2 : Hid ((g0.st.take (j + 1)).any (fun x => x != 0) = true) := by show _ = _; rw [EX.out]; simp [hy0]
              clear hy0
              go_wp2
              go_roundw
              case rel => exact ⟨j + 1, by omega, by congr 1, by rw [E2.out]; rfl, by trivial⟩
              case measure => simp [lenW]; omega
        · obtain rfl : j = L := by omega
          have et : g0.st.take j = g0.st := List.take_of_length_le (Nat.le_of_eq HLL.out)
          rw [et]
          obtain ⟨o, ho⟩ : ∃ o, g0.st.any (fun x => x != 0) = o := ⟨_, rfl⟩
          rw [ho] at SC1 SC2 ⊢
          clear et ho
          cases o with
          | true =>
            have N1 : Hid (scavN (m.drop s) = x) := by show _ = _; rw [SC2.out]; simp
            have N2 : Hid (Rf wr M1 rb P W (m.take s ++ scavM (m.drop s))) := by show Rf _ _ _ _ _ _; rw [SC1.out]; simpa using HRT.out
            go_wp2
            go_roundw
            case rel => exact ⟨s, x, M1, by omega, rfl, rfl, N1.out, N2.out, HMT.out⟩
            case measure => simp [intOf]
          | false =>
            have N1 : Hid (scavN (m.drop s) = x + K) := by show _ = _; rw [SC2.out]; simp; omega
            have EL : Hid ((A ++ g0 :: B).take s ++ (A ++ g0 :: B).drop (s + 1) = m.take s ++ scavM (m.drop s)) := by
              show _ = _
              rw [SC1.out, ← HA.out]
              simp
            have SL : Hid (s < (A ++ g0 :: B).length) := by have := HA.out; show _ < _; simp; omega
            go_wp2_with (first
              | (go_at_call 32; refine (mpages_any p d b q j _ K HK.out).mono ?_; rintro e w5 ⟨rfl, b5⟩; have R5 : Hid (Rf w5 M1 rb P W (A ++ g0 :: B)) := HRT.out.below TW.out b5; have T5 : Hid (2 ≤ w5.heap.size) := Nat.le_trans TW.out b5.size; have M5 : Hid (Mv M w M1 w5) := HMT.out.trans (Mv.below (Ext.refl _ _) b5); clear b5)
              | (have g9 := R5; go_at_call 71; refine (mdrop_any M1 rb P W (A ++ g0 :: B) s _ R5.out T5.out SL.out XL.out).mono ?_; rw [EL.out]; rintro e w6 ⟨rfl, M6, r6, m6⟩; have R6 : Hid (Rf w6 M6 rb P W (m.take s ++ scavM (m.drop s))) := r6; have MM6 : Hid (Mv M w M6 w6) := M5.out.trans m6; clear r6 m6))
            go_roundw
            case rel => exact ⟨s, x + K, M6, by omega, rfl, by congr 1, N1.out, R6.out, MM6.out⟩
            case measure => simp [intOf]
end Go.Proofs.YtgmljgogmbaioaaGreatDoor

/- The document's cache: Data. -/
namespace Go.Proofs.YtgmljgogmbaioaaGreatDoor
open Go.RowKit
set_option linter.unusedVariables false
set_option maxRecDepth 4000

/-- A span as the document tells it. -/
def oneF (s : Sg) : Nat → Bool := fun j => decide (s.st.getD j 0 = 1)
def tellM (s : Sg) : Td := ⟨(s.pg : Int), (s.cl : Int), (s.bts : Int), lsL (oneF s) (slN (s.cl : Int))⟩
theorem tell_same {W P : Nat} {m : List Sg} (hf : Fit W P 0 m) : m.map (tellT W m) = m.map tellM := by
  apply List.ext_getElem (by simp)
  intro i h1 h2
  have hi : i < m.length := by simpa using h1
  simp only [List.getElem_map]
  unfold tellT tellM
  rw [tell_ones hf i hi]
  rfl
theorem lsL_le (f : Nat → Bool) (n : Nat) : (lsL f n).length ≤ n := by rw [lsL_len]; exact cnt_le f n
/-- A span that is being told, in its box: its numbers, and its list so far. -/
def Dx (w : World) (g p d b : Nat) (al : Option Addr) (n cl : Nat) : Prop := w.heap[g]? = some (.cells (dcells (p : Nat) (d : Nat) (b : Nat) al n cl) 48 (0, 0))
theorem Dx.put {w : World} {g p d b : Nat} {al al' : Option Addr} {n cl n' cl' : Nat} (h : Dx w g p d b al n cl) : Dx (w.setCell ⟨g, 3, none⟩ (.slice al' n' cl')) g p d b al' n' cl' := by
  unfold Dx
  rw [heap_put h]
  simp [dcells]
/-- Rows of numbers and of spans are told apart by their kind. -/
theorem own_ne_box {w : World} {B g : Nat} {al : Option Addr} {l : List Int} {cl : Nat} {cs : Array Value} {T : TypeId} (h : OwnsI w B al l cl) (hg : w.heap[g]? = some (.cells cs T (0, 0))) (hT : T ≠ 3) : ob al ≠ some g := by
  intro e
  obtain ⟨_, ⟨h1, _⟩ | ⟨g', c', cur, h1, _, h2, _⟩⟩ := h
  · injection h1 with e1; subst e1; cases e
  · cases h1; cases e
    rw [hg] at h2
    simp at h2
    exact hT h2.2
/-- Within a round over the slots of a span. -/
structure InD (wr wz : World) (xb yb p d b q L Bn : Nat) (al : Option Addr) (cl : Nat) (l : List Int) (n : Nat) : Prop where
  bel : Below wr.heap.size wr wz
  bx : Bx4 wz xb p d b q L
  dx : Dx wz yb p d b al n cl
  own : OwnsI wz Bn al l cl
  lx : wr.heap.size ≤ xb
  ly : wr.heap.size ≤ yb
  xy : xb ≠ yb
  bx' : xb < Bn
  by' : yb < Bn
  bn : Bn ≤ wz.heap.size
  len : l.length = n
theorem InD.app {wr wz w' : World} {xb yb p d b q L Bn : Nat} {al a' : Option Addr} {cl c' : Nat} {l : List Int} {n : Nat} {x : Int} (h : InD wr wz xb yb p d b q L Bn al cl l n) (D : World) (bD : Below wz.heap.size wz D) (t : Tu (fun k => ob al = some k) D w') (o : OwnsI w' Bn a' (l ++ [x]) c') :
    InD wr (w'.setCell ⟨yb, 3, none⟩ (.slice a' (n + 1) c')) xb yb p d b q L Bn a' c' (l ++ [x]) (n + 1) ∧ w'.cell? ⟨yb, 3, none⟩ = some (.slice al n cl) ∧ w'.frozen? ⟨yb, 3, none⟩ = false := by
  have ge : ∀ k, ob al = some k → Bn ≤ k := h.own.ge
  have x1 : w'.heap[xb]? = some (.cells #[.int .i64 (p : Nat), .int .i64 (d : Nat), .int .i64 (b : Nat), .slice (some ⟨q, 0, none⟩) L L] 75 (0, 0)) := t.block xb _ (bblock bD h.bx) (fun e => by have := ge xb e; have := h.bx'; omega)
  have y1 : w'.heap[yb]? = some (.cells (dcells (p : Nat) (d : Nat) (b : Nat) al n cl) 48 (0, 0)) := t.block yb _ (bblock bD h.dx) (fun e => by have := ge yb e; have := h.by'; omega)
  have on : Only yb w' (w'.setCell ⟨yb, 3, none⟩ (.slice a' (n + 1) c')) := Only.set yb 3 _ w'
  have sz : Bn ≤ D.heap.size := Nat.le_trans h.bn bD.size
  have hBw : wr.heap.size ≤ Bn := by have := h.lx; have := h.bx'; omega
  have hwz := h.bel.size
  refine ⟨⟨?_, ?_, Dx.put y1, ?_, h.lx, h.ly, h.xy, h.bx', h.by', ?_, by rw [List.length_append, h.len]; rfl⟩, dcell3 y1, frozen_of_row _ _ _ _ _ y1⟩
  · exact h.bel.trans ((bD.mono hwz).trans (((t.below (B := Bn) (fun i e => ge i e) sz).mono hBw).trans (on.below h.ly)))
  · unfold Bx4; rw [on.block _ h.xy]; exact x1
  · obtain ⟨h0, h1 | ⟨g, c'', cur, h1, hb, h3, h4⟩⟩ := o
    · exact ⟨h0, .inl h1⟩
    · exact ⟨h0, .inr ⟨g, c'', cur, h1, hb, by rw [on.block g (by have := h.by'; omega)]; exact h3, h4⟩⟩
  · rw [on.size]; exact Nat.le_trans sz t.size
set_option maxRecDepth 20000 in
set_option maxHeartbeats 4000000 in
theorem mdata_any (M : Nat → Nat) (rb P W : Nat) (m : List Sg) (w : World) (h : Rf w M rb P W m) (ho : Okc P W m) (h2 : 2 ≤ w.heap.size) :
    Calls Tryz.prog 40 #[.pointer (some ⟨rb, 0, none⟩)] w fun e w' => ∃ v, e = .returned v ∧ Told w' w.heap.size v (m.map tellM) ∧ Below w.heap.size w w' := by
  obtain ⟨a, cap, gs, hR⟩ := h
  have HR : Hid (Rm w M rb a cap gs P W m) := hR
  have HO : Hid (Okc P W m) := ho
  have b2 := hR.box2
  have hml := ho.fit.len
  have hP := ho.p1
  obtain ⟨n, hn⟩ : ∃ n, m.length = n := ⟨_, rfl⟩
  have HN : Hid (m.length = n) := hn
  rw [hn] at b2 hml
  clear hR ho hn h2
  go_enter Tryz.func40, Tryz.ntmps40
  go_wp2_with fail
  go_loopw [3, 13] (fun lv iv wr => ∃ (k : Nat) (av : Option Addr) (cv : Nat), k ≤ n ∧ iv = .int .i64 (k : Nat) ∧ lv = .slice av k cv ∧ Told wr w.heap.size (.slice av k cv) ((m.take k).map tellM) ∧ Below w.heap.size w wr) (fun _ iv _ => n - lenW iv)
  case atStart => exact ⟨0, none, 0, Nat.zero_le _, rfl, rfl, Told.nil _ _, Below.refl _ _⟩
  case round =>
    obtain ⟨k, av, cv, hk, rfl, rfl, ht, hb⟩ := hrel
    rename World => wr
    have HT : Hid (Told wr w.heap.size (.slice av k cv) ((m.take k).map tellM)) := ht
    have HB : Hid (Below w.heap.size w wr) := hb
    clear ht hb
    by_cases hkn : k < n
    · have hkm : k < m.length := by rw [HN.out]; exact hkn
      obtain ⟨g, q, rfl, hg2, hgl, hq, n0, n1, n2, n3, cq, hMq⟩ := HR.out.at k hkm
      have c0 := bcell HB.out n0
      have c1 := bcell HB.out n1
      have c2 := bcell HB.out n2
      have c3 := bcell HB.out n3
      clear n0 n1 n2 n3
      have OK := (HO.out.fit.ok _ (List.getElem_mem hkm)).1
      have ET : (m.take k).map tellM ++ [tellM m[k]] = (m.take (k + 1)).map tellM := by rw [List.take_add_one, List.map_append, List.getElem?_eq_getElem hkm]; rfl
      obtain ⟨s, hs⟩ : ∃ s, m[k] = s := ⟨_, rfl⟩
      rw [hs] at c0 c1 c2 c3 cq OK ET
      obtain ⟨f1, f2, _⟩ := OK.facts
      have hlen := OK.len
      have TM : tellM s = ⟨(s.pg : Int), (s.cl : Int), (s.bts : Int), lsL (oneF s) s.st.length⟩ := by unfold tellM; rw [hlen]
      rw [TM] at ET
      have CQ : Hid (∀ w', Below w.heap.size w w' → ∀ j (hj : j < s.st.length), w'.cell? ⟨q, j, none⟩ = some (.int .i64 (s.st[j] : Nat))) := fun w' hb j hj => bcell hb (st_cell cq j hj)
      obtain ⟨p, hp⟩ : ∃ p, s.pg = p := ⟨_, rfl⟩
      obtain ⟨d, hd⟩ : ∃ d, s.cl = d := ⟨_, rfl⟩
      obtain ⟨b, hb⟩ : ∃ b, s.bts = b := ⟨_, rfl⟩
      obtain ⟨L, hL⟩ : ∃ L, s.st.length = L := ⟨_, rfl⟩
      have HLL : Hid (s.st.length = L) := hL
      rw [hp] at c0 ET
      rw [hd] at c1 ET
      rw [hb] at c2 ET
      rw [hL] at c3 f2 ET
      have HET : Hid ((m.take k).map tellM ++ [⟨(p : Int), (d : Int), (b : Int), lsL (oneF s) L⟩] = (m.take (k + 1)).map tellM) := ET
      have LS : Hid (∀ j (hj : j < s.st.length), lsL (oneF s) (j + 1) = lsL (oneF s) j ++ (if s.st[j] = 1 then [(j : Int)] else [])) := fun j hj => by
        rw [lsL]
        unfold oneF
        simp [List.getD_eq_getElem?_getD, List.getElem?_eq_getElem hj]
      obtain ⟨E1, hE1⟩ : ∃ E1, mbox wr p d b q L = E1 := ⟨_, rfl⟩
      have HE1 : Hid (wr.alloc (.cells #[.int .i64 (p : Nat), .int .i64 (d : Nat), .int .i64 (b : Nat), .slice (some ⟨q, 0, none⟩) L L] 75) = E1) := hE1
      have B1 : Below wr.heap.size wr E1 := by rw [← hE1]; exact mbox_below _ _ _ _ _ _
      have X1 : Bx4 E1 wr.heap.size p d b q L := by rw [← hE1]; exact mbox_4 _ _ _ _ _ _
      have z1 : E1.heap.size = wr.heap.size + 1 := by rw [← hE1]; simp [mbox]
      obtain ⟨E2, hE2⟩ : ∃ E2, E1.alloc (.cells (dcells (p : Nat) (d : Nat) (b : Nat) none 0 0) 48) = E2 := ⟨_, rfl⟩
      have HE2 : Hid (E1.alloc (.cells #[.int .i64 (p : Nat), .int .i64 (d : Nat), .int .i64 (b : Nat), .slice none 0 0] 48) = E2) := hE2
      have B2 : Below E1.heap.size E1 E2 := by rw [← hE2]; exact (Below.refl _ E1).alloc (Nat.le_refl _) _
      have z2 : E2.heap.size = wr.heap.size + 2 := by rw [← hE2]; simp; omega
      have IN0 : Hid (InD wr E2 wr.heap.size E1.heap.size p d b q L E2.heap.size none 0 [] 0) := ⟨B1.trans (B2.mono B1.size), X1.keep B2, by unfold Dx; rw [← hE2]; exact Go.heap_alloc_new E1 _, ownsI_none _ _, Nat.le_refl _, B1.size, by omega, by omega, by omega, Nat.le_refl _, rfl⟩
      obtain ⟨yb, hyb⟩ : ∃ yb, E1.heap.size = yb := ⟨_, rfl⟩
      rw [hyb] at IN0
      obtain ⟨e0, e1, e2, e3⟩ := X1.cells
      have k0 : (k : Int) < (n : Int) := by omega
      clear hs hp hd hb hL OK TM ET hlen cq hMq hg2 hq hkm f1 hE1 B1 hE2 B2 z1 z2 X1
      go_upto_region 5 with (fail)
      rw [HE1.out]
      go_upto_region 6 with (fail)
      (try rw [HE2.out])
      (try rw [hyb])
      clear e0 e1 e2 e3
      obtain ⟨d0, d1, d2, d3⟩ := IN0.out.bx.cells
      go_wp2_with fail
      go_loopw [27] (fun jv wz => ∃ (j N : Nat) (al : Option Addr) (cl : Nat), j ≤ L ∧ jv = .int .i64 (j : Nat) ∧ InD wr wz wr.heap.size yb p d b q L E2.heap.size al cl (lsL (oneF s) j) N) (fun jv _ => L - lenW jv)
      case atStart => exact ⟨0, 0, none, 0, Nat.zero_le _, rfl, IN0.out⟩
      case round =>
        clear d0 d1 d2 d3
        obtain ⟨j, N, al, cl, hj, rfl, hI⟩ := hrel
        rename World => wz
        have HI : Hid (InD wr wz wr.heap.size yb p d b q L E2.heap.size al cl (lsL (oneF s) j) N) := hI
        obtain ⟨d0, d1, d2, d3⟩ := hI.bx.cells
        have y3 := dcell3 hI.dx
        by_cases hjL : j < L
        · have hjs : j < s.st.length := by rw [HLL.out]; exact hjL
          have cj := CQ.out wz (HB.out.trans (hI.bel.mono HB.out.size)) j hjs
          have STEP := LS.out j hjs
          obtain ⟨y, hy⟩ : ∃ y, s.st[j] = y := ⟨_, rfl⟩
          rw [hy] at cj STEP
          have j0 : (j : Int) < (L : Int) := by omega
          by_cases hy1 : y = 1
          · have e1 : ((y : Int) == 1) = true := by rw [beq_iff_eq]; omega
            rw [if_pos hy1] at STEP
            have HST : Hid (lsL (oneF s) (j + 1) = lsL (oneF s) j ++ [(j : Int)]) := STEP
            obtain ⟨D, hD⟩ : ∃ D, wz.alloc (.cells #[.int .i64 (j : Nat)] 3) = D := ⟨_, rfl⟩
            have bD : Below wz.heap.size wz D := by rw [← hD]; exact (Below.refl _ wz).alloc (Nat.le_refl _) _
            have cD : D.cell? ⟨wz.heap.size, 0, none⟩ = some (.int .i64 (j : Nat)) := by rw [← hD]; exact cell_of_row _ _ 0 _ _ _ (Go.heap_alloc_new wz _)
            obtain ⟨a9, c9, w9, run9, o9, u9, n9⟩ := appI_run E2.heap.size D (Nat.le_trans hI.bn bD.size) al (lsL (oneF s) j) N cl (hI.own.keep bD) hI.len wz.heap.size (j : Int) 1 cD (by have := lsL_le (oneF s) j; omega)
            obtain ⟨I9, r3, fz⟩ := hI.app D bD u9 o9
            have HI9 : Hid (InD wr (w9.setCell ⟨yb, 3, none⟩ (.slice a9 (N + 1) c9)) wr.heap.size yb p d b q L E2.heap.size a9 c9 (lsL (oneF s) j ++ [(j : Int)]) (N + 1)) := I9
            have RUN9 : Hid ((Builtin.append_ #[34, 34] 34 #[.slice al N cl, .slice (some ⟨wz.heap.size, 0, none⟩) 1 1]).run Tryz.prog D = .ok (.slice a9 (N + 1) c9) w9) := run9
            clear hI hy hjs hy1 STEP bD cD run9 o9 u9 n9 I9
            go_wp2_with (at_builtin; refine wpList_runi rfl rfl _ _ rfl (.slice al N cl) (.slice (some ⟨wz.heap.size, 0, none⟩) 1 1) _ _ rfl rfl RUN9.out ?_)
            go_roundw
            case rel => exact ⟨j + 1, N + 1, a9, c9, by omega, by congr 1, by rw [HST.out]; exact HI9.out⟩
            case measure => simp [lenW]; omega
          · have e1 : ((y : Int) == 1) = false := by rw [beq_eq_false_iff_ne]; omega
            rw [if_neg hy1, List.append_nil] at STEP
            have HST : Hid (lsL (oneF s) (j + 1) = lsL (oneF s) j) := STEP
            clear hI hy hjs hy1 STEP
            go_wp2
            go_roundw
            case rel => exact ⟨j + 1, N, al, cl, by omega, by congr 1, by rw [HST.out]; exact HI.out⟩
            case measure => simp [lenW]; omega
        · obtain rfl : j = L := by omega
          have y0 := dcell0 hI.dx
          have y1 := dcell1 hI.dx
          have y2 := dcell2 hI.dx
          obtain ⟨l, hl⟩ : ∃ l, lsL (oneF s) j = l := ⟨_, rfl⟩
          rw [hl] at HI HET
          obtain ⟨D, hD⟩ : ∃ D, wz.alloc (.cells #[.int .i64 (p : Nat), .int .i64 (d : Nat), .int .i64 (b : Nat), .slice al N cl] 48) = D := ⟨_, rfl⟩
          have bD : Below wz.heap.size wz D := by rw [← hD]; exact (Below.refl _ wz).alloc (Nat.le_refl _) _
          have RD : Hid (D.heap[wz.heap.size]? = some (.cells (dcells (p : Nat) (d : Nat) (b : Nat) al N cl) 48 (0, 0))) := by show _ = _; rw [← hD]; exact Go.heap_alloc_new wz _
          have B0 : Below wr.heap.size wr D := HI.out.bel.trans (bD.mono HI.out.bel.size)
          have TD : Hid (Told D w.heap.size (.slice av k cv) ((m.take k).map tellM)) := HT.out.keep B0
          have BD : Hid (Below w.heap.size w D) := HB.out.trans (B0.mono HB.out.size)
          have OD : Hid (OwnsI D w.heap.size al l cl) := (HI.out.own.keep bD).mono (by have := HI.out.lx; have := HI.out.bx'; have := HB.out.size; omega)
          have NL : Hid (l.length = N) := HI.out.len
          have KL : Hid (((m.take k).map tellM).length = k) := by show _ = _; rw [List.length_map, List.length_take, HN.out]; omega
          have LN : Hid (((m.take k).map tellM).length ≤ 100000) := by show _ ≤ _; rw [KL.out]; omega
          clear hI bD B0 hl
          go_wp2_with (at_builtin; refine wpList_told rfl _ _ rfl w.heap.size BD.out.size av k cv ((m.take k).map tellM) rfl KL.out TD.out _ 1 ⟨⟨(p : Int), (d : Int), (b : Int), l⟩, al, cl⟩ N NL.out rfl RD.out OD.out LN.out ?_; intro a4 c4 w4 t4 b4; have T4 : Hid (Told w4 w.heap.size (.slice a4 (k + 1) c4) ((m.take (k + 1)).map tellM)) := (by rw [← HET.out]; exact t4); have B4 : Hid (Below w.heap.size w w4) := BD.out.trans b4; clear t4 b4)
          go_roundw
          case rel => exact ⟨k + 1, a4, c4, by omega, by congr 1, rfl, T4.out, B4.out⟩
          case measure => simp [lenW]; omega
    · obtain rfl : k = n := by omega
      have F : Hid (Told wr w.heap.size (.slice av k cv) (m.map tellM)) := by
        have := HT.out
        rw [List.take_of_length_le (Nat.le_of_eq HN.out)] at this
        exact this
      go_wp2
      go_ret
      exact ⟨_, rfl, F.out, HB.out⟩
end Go.Proofs.YtgmljgogmbaioaaGreatDoor

/- The document's span: its New and Of -/
namespace Go.Proofs.YtgmljgogmbaioaaGreatDoor
open Go.RowKit
set_option linter.unusedVariables false
set_option maxRecDepth 4000


def cellsT (f : Nat → Bool) (n : Nat) : List Value := (List.range n).map fun i => Value.bool (f i)
theorem cellsT_len (f : Nat → Bool) (n : Nat) : (cellsT f n).length = n := by simp [cellsT]
theorem cellsT_at (f : Nat → Bool) (n i : Nat) (h : i < n) : (cellsT f n)[i]? = some (.bool (f i)) := by simp [cellsT, h]
/-- The document's span: a box mb, a row mg. -/
structure Ref (w : World) (mb mg : Nat) (p c s : Int) (n : Nat) (f : Nat → Bool) : Prop where
  box : w.heap[mb]? = some (.cells #[.int .i64 p, .int .i64 c, .int .i64 s, .slice (some ⟨mg, 0, none⟩) n n] 73 (0, 0))
  row : w.heap[mg]? = some (.cells (cellsT f n).toArray 4 (0, 0))
theorem Ref.lt {w : World} {mb mg n : Nat} {p c s : Int} {f : Nat → Bool} (h : Ref w mb mg p c s n f) : mb < w.heap.size ∧ mg < w.heap.size := ⟨(Array.getElem?_eq_some_iff.1 h.box).1, (Array.getElem?_eq_some_iff.1 h.row).1⟩
theorem Ref.apart {w : World} {mb mg n : Nat} {p c s : Int} {f : Nat → Bool} (h : Ref w mb mg p c s n f) : mb ≠ mg := by
  rintro rfl
  have h1 := h.box
  rw [h.row] at h1
  simp at h1
theorem Ref.keep {w w' : World} {mb mg n : Nat} {p c s : Int} {f : Nat → Bool} (h : Ref w mb mg p c s n f) (hb : Below w.heap.size w w') : Ref w' mb mg p c s n f :=
  ⟨by rw [hb.block mb h.lt.1]; exact h.box, by rw [hb.block mg h.lt.2]; exact h.row⟩
theorem Ref.beside {w w' : World} {mb mg n o : Nat} {p c s : Int} {f : Nat → Bool} (h : Ref w mb mg p c s n f) (ho : Only o w w') (h1 : mb ≠ o) (h2 : mg ≠ o) : Ref w' mb mg p c s n f :=
  ⟨by rw [ho.block mb h1]; exact h.box, by rw [ho.block mg h2]; exact h.row⟩
theorem Ref.drewN {w : World} {mb mg n : Nat} {p c s : Int} {f : Nat → Bool} (h : Ref w mb mg p c s n f) (m : Nat) : Ref (w.drewN m) mb mg p c s n f := ⟨h.box, h.row⟩
theorem Ref.drew {w : World} {mb mg n : Nat} {p c s : Int} {f : Nat → Bool} (h : Ref w mb mg p c s n f) : Ref w.drew mb mg p c s n f := ⟨h.box, h.row⟩
theorem Ref.c0 {w : World} {mb mg n : Nat} {p c s : Int} {f : Nat → Bool} (h : Ref w mb mg p c s n f) : w.cell? ⟨mb, 0, none⟩ = some (.int .i64 p) := cell_of_row _ _ 0 _ _ _ h.box
theorem Ref.c1 {w : World} {mb mg n : Nat} {p c s : Int} {f : Nat → Bool} (h : Ref w mb mg p c s n f) : w.cell? ⟨mb, 1, none⟩ = some (.int .i64 c) := cell_of_row _ _ 1 _ _ _ h.box
theorem Ref.c2 {w : World} {mb mg n : Nat} {p c s : Int} {f : Nat → Bool} (h : Ref w mb mg p c s n f) : w.cell? ⟨mb, 2, none⟩ = some (.int .i64 s) := cell_of_row _ _ 2 _ _ _ h.box
theorem Ref.c3 {w : World} {mb mg n : Nat} {p c s : Int} {f : Nat → Bool} (h : Ref w mb mg p c s n f) : w.cell? ⟨mb, 3, none⟩ = some (.slice (some ⟨mg, 0, none⟩) n n) := cell_of_row _ _ 3 _ _ _ h.box
theorem Ref.cell {w : World} {mb mg n : Nat} {p c s : Int} {f : Nat → Bool} (h : Ref w mb mg p c s n f) (i : Nat) (hi : i < n) : w.cell? ⟨mg, i, none⟩ = some (.bool (f i)) := by
  rw [cell_of_row _ _ i _ _ _ h.row]; simpa using cellsT_at f n i hi
theorem Ref.thawed {w : World} {mb mg n : Nat} {p c s : Int} {f : Nat → Bool} (h : Ref w mb mg p c s n f) (i : Nat) : w.frozen? ⟨mg, i, none⟩ = false := frozen_of_row _ _ _ _ _ h.row
theorem heap_set {w : World} {g j : Nat} {v : Value} {cs : Array Value} {t : TypeId} (h : w.heap[g]? = some (.cells cs t (0, 0))) : (w.setCell ⟨g, j, none⟩ v).heap[g]? = some (.cells (cs.setIfInBounds j v) t (0, 0)) := by
  simp only [World.setCell, Array.getElem?_modify, h]
  simp
theorem Ref.set {w : World} {mb mg n : Nat} {p c s : Int} {f : Nat → Bool} (h : Ref w mb mg p c s n f) (i : Nat) (v : Bool) : Ref (w.setCell ⟨mg, i, none⟩ (.bool v)) mb mg p c s n (put f i v) := by
  refine ⟨by rw [(Only.set mg i _ w).block mb h.apart]; exact h.box, ?_⟩
  rw [heap_set h.row]
  have e : (cellsT f n).set i (.bool v) = cellsT (put f i v) n := by
    apply List.ext_getElem
    · simp [cellsT]
    · intro j h1 h2
      simp [cellsT, List.getElem_set, put]
      by_cases e : i = j
      · subst e; simp
      · simp [e, Ne.symm e]
  simp [← e]

theorem Tryz.info4 : (Tryz.prog.info? 4).map (fun i => (i.zero, i.size, i.bytes)) = some (some (.bool false), 1, 1) := by kernel_rfl
theorem made_T (n : Nat) : madeCells #[.bool false] n = (cellsT (fun _ => false) n).toArray := by
  apply Array.toList_inj.1
  apply List.ext_getElem
  · simp [madeCells, cellsT]
  · intro i h1 h2
    simp [madeCells, cellsT, Nat.mod_one]
theorem make_T (w : World) (n : Nat) (hn : n ≤ 1000000) : (Instr.makeSlice 71 (.int .i64 (n : Nat)) (.int .i64 (n : Nat))).run Tryz.prog w = .ok (.slice (some ⟨w.heap.size, 0, none⟩) n n) (w.alloc (.cells (cellsT (fun _ => false) n).toArray 4)) := by
  obtain ⟨i0, hi0, hz0, hs0, hb0⟩ := info_parts Tryz.info4
  have h := run_make (P := Tryz.prog) w 71 4 i0 _ Tryz.underlying71 hi0 hz0 .i64 .i64 (n : Int) (n : Int) (by omega) (Int.le_refl _) (by rw [hb0]; omega) (by omega)
  rw [h, hs0]
  simp only [Int.toNat_natCast, Value.cells, Nat.mul_one, made_T]
theorem qslots_rt (p c s : Int) (n : Nat) (w : World) (r : Rt p c s) (hn : slN c = n) :
    Calls Tryz.prog 30 #[.int .i64 c] w fun e w' => e = .returned (.int .i64 (n : Nat)) ∧ w = w' := by
  subst hn
  have := qslots_any c w
  rw [r.facts.2.2.1] at this
  exact this
theorem rnew_ok (p c s : Int) (n : Nat) (w : World) (r : Rt p c s) (hn : slN c = n) :
    Calls Tryz.prog 66 #[.int .i64 p, .int .i64 c, .int .i64 s] w fun e w' => ∃ mb mg, e = .returned (.tuple #[.pointer (some ⟨mb, 0, none⟩), .int .i64 0]) ∧ Ref w' mb mg p c s n (fun _ => false) ∧ Below w.heap.size w w' ∧ w.heap.size ≤ mb ∧ w.heap.size ≤ mg := by
  have R : Hid (Rt p c s) := r
  have HN : Hid (slN c = n) := hn
  have n16 : n ≤ 16 := by have := r.facts.2.1; omega
  have MK : ∀ w : World, (Instr.makeSlice 71 (.int .i64 (n : Nat)) (.int .i64 (n : Nat))).run Tryz.prog w = .ok (.slice (some ⟨w.heap.size, 0, none⟩) n n) (w.alloc (.cells (cellsT (fun _ => false) n).toArray 4)) := fun w => make_T w n (by omega)
  have RN : Hid (Ref ((w.alloc (.cells (cellsT (fun _ => false) n).toArray 4)).alloc (.cells #[.int .i64 p, .int .i64 c, .int .i64 s, .slice (some ⟨w.heap.size, 0, none⟩) n n] 73)) (w.heap.size + 1) w.heap.size p c s n (fun _ => false)) := by
    refine ⟨?_, ?_⟩
    · have := Go.heap_alloc_new (w.alloc (.cells (cellsT (fun _ => false) n).toArray 4)) (.cells #[.int .i64 p, .int .i64 c, .int .i64 s, .slice (some ⟨w.heap.size, 0, none⟩) n n] 73)
      rwa [World.size_alloc] at this
    · rw [Below.heap_alloc _ _ _ (by simp)]; exact Go.heap_alloc_new w _
  have BN : Hid (Below w.heap.size w ((w.alloc (.cells (cellsT (fun _ => false) n).toArray 4)).alloc (.cells #[.int .i64 p, .int .i64 c, .int .i64 s, .slice (some ⟨w.heap.size, 0, none⟩) n n] 73))) := ((Below.refl _ w).alloc (Nat.le_refl _) _).alloc (by simp) _
  have h0 := r.c0
  have h7 := r.c7
  have hp0 := r.p0
  have hp1 := r.p1
  have hpg := pgsN_le c s
  obtain ⟨G, hG⟩ : ∃ G, pgsN c s = G := ⟨_, rfl⟩
  have HG : Hid (pgsN c s = G) := hG
  rw [hG] at hp1 hpg
  have g1 : IntKind.i64.wrap (4096 - (G : Int)) = 4096 - (G : Int) := by rw [IntKind.wrap_i64]; omega
  have h4 : ¬ (4096 - (G : Int) < p) := by omega
  by_cases hc : c = 7
  · subst hc
    have HO : Hid (ofI s = 7) := r.lg rfl
    clear r hn hG
    go_enter Tryz.func66, Tryz.ntmps66
    go_wp2_with (first
      | (go_at_call 27; refine (qof_any s _).mono ?_; rw [HO.out]; rintro e w' ⟨rfl, rfl⟩)
      | (go_at_call 67; refine (rpages_any 7 s _ G HG.out).mono ?_; rintro e w' ⟨rfl, rfl⟩)
      | (go_at_call 30; refine (qslots_rt p 7 s n _ R.out HN.out).mono ?_; rintro e w' ⟨rfl, rfl⟩))
    go_ret2
    exact ⟨_, _, rfl, RN.out, BN.out, by omega, Nat.le_refl _⟩
  · obtain rfl : s = 0 := r.sm (by omega)
    have hq : (c == 7) = false := beq_eq_false_iff_ne.2 hc
    have hc7 : c < 7 := by omega
    clear r hn hG hc
    go_enter Tryz.func66, Tryz.ntmps66
    go_wp2_with (first
      | (go_at_call 67; refine (rpages_any c 0 _ G HG.out).mono ?_; rintro e w' ⟨rfl, rfl⟩)
      | (go_at_call 30; refine (qslots_rt p c 0 n _ R.out HN.out).mono ?_; rintro e w' ⟨rfl, rfl⟩))
    go_ret2
    exact ⟨_, _, rfl, RN.out, BN.out, by omega, Nat.le_refl _⟩
theorem rnew_bad (p c s : Int) (x : Int) (w : World) (hx : newE p c s = x) (h0 : x ≠ 0) :
    Calls Tryz.prog 66 #[.int .i64 p, .int .i64 c, .int .i64 s] w fun e w' => e = .returned (.tuple #[.pointer none, .int .i64 x]) ∧ w = w' := by
  rcases newE_cases p c s with ⟨h1, e⟩ | ⟨k0, k7, h1, e⟩ | ⟨k0, k7, h1, h2, h3, e⟩ | ⟨r, e⟩
  · obtain rfl : x = 11 := by rw [← hx, e]
    clear e hx h0
    rcases h1 with h1 | h1
    · go_enter Tryz.func66, Tryz.ntmps66
      go_wp2
      go_ret2
      exact ⟨rfl, rfl⟩
    · have h2 : ¬ c < 0 := by omega
      go_enter Tryz.func66, Tryz.ntmps66
      go_wp2
      go_ret2
      exact ⟨rfl, rfl⟩
  · obtain rfl : x = 2 := by rw [← hx, e]
    clear e hx h0
    rcases h1 with ⟨h1, h2⟩ | ⟨rfl, h2⟩
    · have hs : (s == 0) = false := beq_eq_false_iff_ne.2 h2
      have hs' : (s != 0) = true := by rw [bne, hs]; rfl
      clear h2
      go_enter Tryz.func66, Tryz.ntmps66
      go_wp2
      go_ret2
      exact ⟨rfl, rfl⟩
    · obtain ⟨k, hk⟩ : ∃ k, ofI s = k := ⟨_, rfl⟩
      have HK : Hid (ofI s = k) := hk
      rw [hk] at h2
      have hs : (k == 7) = false := beq_eq_false_iff_ne.2 h2
      have hs' : (k != 7) = true := by rw [bne, hs]; rfl
      clear h2 hk
      go_enter Tryz.func66, Tryz.ntmps66
      go_wp2_with (go_at_call 27; refine (qof_any s _).mono ?_; rw [HK.out]; rintro e w' ⟨rfl, rfl⟩)
      go_ret2
      exact ⟨rfl, rfl⟩
  · obtain rfl : x = 10 := by rw [← hx, e]
    clear e hx h0
    have hpg := pgsN_le c s
    obtain ⟨G, hG⟩ : ∃ G, pgsN c s = G := ⟨_, rfl⟩
    have HG : Hid (pgsN c s = G) := hG
    rw [hG] at h3 hpg
    have g1 : IntKind.i64.wrap (4096 - (G : Int)) = 4096 - (G : Int) := by rw [IntKind.wrap_i64]; omega
    have h3' : p < 0 ∨ (¬ p < 0 ∧ 4096 - (G : Int) < p) := by omega
    clear h3 hG
    by_cases hc : c = 7
    · subst hc
      have HO : Hid (ofI s = 7) := h2 rfl
      clear h1 h2
      rcases h3' with h4 | ⟨h4, h5⟩
      all_goals
        go_enter Tryz.func66, Tryz.ntmps66
        go_wp2_with (first
          | (go_at_call 27; refine (qof_any s _).mono ?_; rw [HO.out]; rintro e w' ⟨rfl, rfl⟩)
          | (go_at_call 67; refine (rpages_any 7 s _ G HG.out).mono ?_; rintro e w' ⟨rfl, rfl⟩))
        go_ret2
        exact ⟨rfl, rfl⟩
    · obtain rfl : s = 0 := h1 (by omega)
      have hq : (c == 7) = false := beq_eq_false_iff_ne.2 hc
      have hc7 : c < 7 := by omega
      clear h1 h2 hc
      rcases h3' with h4 | ⟨h4, h5⟩
      all_goals
        go_enter Tryz.func66, Tryz.ntmps66
        go_wp2_with (go_at_call 67; refine (rpages_any c 0 _ G HG.out).mono ?_; rintro e w' ⟨rfl, rfl⟩)
        go_ret2
        exact ⟨rfl, rfl⟩
  · exact absurd (hx.symm.trans e) h0


theorem rof_bad (p c s : Int) (a : Option Addr) (n cap : Nat) (x : Int) (w : World) (hx : newE p c s = x) (h0 : x ≠ 0) :
    Calls Tryz.prog 31 #[.agg #[.int .i64 p, .int .i64 c, .int .i64 s, .slice a n cap]] w fun e w' => e = .returned (.tuple #[.pointer none, .int .i64 x]) ∧ Below w.heap.size w w' := by
  obtain ⟨D, hD, zD, rD, bD⟩ := dbox w p c s a n cap
  have HD : Hid (w.alloc (.cells #[.int .i64 p, .int .i64 c, .int .i64 s, .slice a n cap] 48) = D) := hD
  have BD : Hid (Below w.heap.size w D) := bD
  have c0 := dcell0 rD
  have c1 := dcell1 rD
  have c2 := dcell2 rD
  have HX : Hid (newE p c s = x) := hx
  have hne : (x == 0) = false := beq_eq_false_iff_ne.2 h0
  have hne' : (x != 0) = true := by rw [bne, hne]; rfl
  clear hD zD rD bD hx
  go_enter Tryz.func31, Tryz.ntmps31
  go_upto_region 1 with (fail)
  rw [HD.out]
  go_wp2_with (go_at_call 66; refine (rnew_bad p c s x D HX.out h0).mono ?_; rintro e w' ⟨rfl, rfl⟩)
  go_ret2
  exact ⟨rfl, BD.out⟩
/-- What the document's Of leaves. -/
def ROp (w : World) (p c s : Int) (n : Nat) (l : List Int) (r : Bool) (e : Ending) (w' : World) : Prop :=
  Below w.heap.size w w' ∧ ((r = false ∧ e = .returned (.tuple #[.pointer none, .int .i64 4])) ∨ (r = true ∧ ∃ mb mg, e = .returned (.tuple #[.pointer (some ⟨mb, 0, none⟩), .int .i64 0]) ∧ Ref w' mb mg p c s n (fOf l) ∧ w.heap.size ≤ mb ∧ w.heap.size ≤ mg))
set_option maxRecDepth 20000 in
set_option maxHeartbeats 4000000 in
theorem rof_any (p c s : Int) (a : Option Addr) (cap : Nat) (l : List Int) (n : Nat) (r : Bool) (w : World) (hI : IsI w a l) (hm : l.length ≤ maxLen) (hx : newE p c s = 0) (hn : slN c = n) (hr : okL n (-1) l = r) :
    Calls Tryz.prog 31 #[.agg #[.int .i64 p, .int .i64 c, .int .i64 s, .slice a l.length cap]] w (ROp w p c s n l r) := by
  obtain ⟨D, hD, zD, rD, bD⟩ := dbox w p c s a l.length cap
  have HD : Hid (w.alloc (.cells #[.int .i64 p, .int .i64 c, .int .i64 s, .slice a l.length cap] 48) = D) := hD
  have BD : Hid (Below w.heap.size w D) := bD
  have RD : Hid (D.heap[w.heap.size]? = some (.cells (dcells p c s a l.length cap) 48 (0, 0))) := rD
  have ID : Hid (IsI D a l) := hI.keep bD
  have RT : Hid (Rt p c s) := newE_rt hx
  have n16 : n ≤ 16 := by have := RT.out.facts.2.1; omega
  have c0 := dcell0 rD
  have c1 := dcell1 rD
  have c2 := dcell2 rD
  have HN : Hid (slN c = n) := hn
  have HR : Hid (okL n (-1) l = r) := hr
  unfold maxLen at hm
  clear hD zD rD bD hx hn hr hI
  go_enter Tryz.func31, Tryz.ntmps31
  go_upto_region 1 with (fail)
  rw [HD.out]
  go_wp2_with fail
  refine (rnew_ok p c s n D RT.out HN.out).mono ?_
  rintro e w1 ⟨mb, mg, rfl, r1, b1, g1, g2⟩
  have R1 : Hid (Ref w1 mb mg p c s n (fOf (l.take 0))) := by show Ref _ _ _ _ _ _ _ _; rw [List.take_zero, fOf_nil]; exact r1
  have B1 : Hid (Below D.heap.size D w1) := b1
  have d3 := bcell b1 (dcell3 RD.out)
  clear r1 b1 c0 c1 c2
  go_wp2
  go_loopw [24] (fun iv wr => ∃ (k : Nat) (t : Int), k ≤ l.length ∧ iv = .int .i64 (k : Nat) ∧ t = prevI l k ∧ -1 ≤ t ∧ okL n (-1) l = okL n t (l.drop k) ∧ Ref wr mb mg p c s n (fOf (l.take k)) ∧ Below D.heap.size D wr) (fun iv _ => l.length - (intOf iv).toNat)
  case atStart => exact ⟨0, -1, Nat.zero_le _, rfl, rfl, by omega, rfl, R1.out, B1.out⟩
  case round =>
    clear R1 B1 d3
    obtain ⟨k, t, hk, rfl, ht, t0, hO, hRf, hBl⟩ := hrel
    rename World => wr
    have HTt : Hid (t = prevI l k) := ht
    have HO : Hid (okL n (-1) l = okL n t (l.drop k)) := hO
    have RF : Hid (Ref wr mb mg p c s n (fOf (l.take k))) := hRf
    have BL : Hid (Below D.heap.size D wr) := hBl
    have BW : Hid (Below w.heap.size w wr) := BD.out.trans (hBl.mono BD.out.size)
    have d3 := bcell hBl (dcell3 RD.out)
    have m3 := hRf.c3
    clear ht hO hRf hBl
    by_cases hlt : k < l.length
    · obtain ⟨hin, h0 | ⟨ba, off, rfl, hba, hc⟩⟩ := ID.out
      · rw [h0] at hlt; simp at hlt
      have hcell := (BL.out.cell (p := ⟨ba, off + k, none⟩) hba).trans (hc k hlt)
      have hxb := AllI.at (show AllI l from hin) k
      have ST : Hid (okL n t (l.drop k) = (decide (t < l.getD k 0 ∧ l.getD k 0 < (n : Int)) && okL n (l.getD k 0) (l.drop (k + 1)))) := okL_step n t l k hlt
      have FM : Hid (0 ≤ l.getD k 0 → (fun x => if x = (l.getD k 0).toNat then true else fOf (l.take k) x) = fOf (l.take (k + 1))) := fun h0 => fOf_more l k hlt h0
      have PV : Hid (prevI l (k + 1) = l.getD k 0) := prevI_succ l k
      obtain ⟨x, hx⟩ : ∃ x, l.getD k 0 = x := ⟨_, rfl⟩
      rw [hx] at hcell hxb ST FM PV
      have BAD : Hid (¬ (t < x ∧ x < (n : Int)) → r = false) := fun h => by rw [← HR.out, HO.out, ST.out, decide_eq_false h, Bool.false_and]
      have HC : Hid (∀ i, i < l.length → D.cell? ⟨ba, off + i, none⟩ = some (.int .i64 (l.getD i 0))) := hc
      clear hx hc hin
      by_cases hx0 : x < 0
      · have E : Hid (r = false) := BAD.out (by omega)
        go_wp2
        go_ret2
        exact ⟨BW.out, .inl ⟨E.out, rfl⟩⟩
      · by_cases hxn : (n : Int) ≤ x
        · have E : Hid (r = false) := BAD.out (by omega)
          go_wp2
          go_ret2
          exact ⟨BW.out, .inl ⟨E.out, rfl⟩⟩
        · obtain ⟨j, rfl⟩ : ∃ j : Nat, x = j := ⟨x.toNat, by omega⟩
          have hjn : j < n := by omega
          have mj := RF.out.cell j hjn
          have mz := RF.out.thawed j
          have RS : Hid (Ref (wr.setCell ⟨mg, j, none⟩ (.bool true)) mb mg p c s n (fOf (l.take (k + 1)))) := by
            have q := RF.out.set j true
            have e : put (fOf (l.take k)) j true = fOf (l.take (k + 1)) := by rw [← FM.out (by omega)]; rfl
            rw [e] at q
            exact q
          have BS : Hid (Below D.heap.size D (wr.setCell ⟨mg, j, none⟩ (.bool true))) := BL.out.setCell g2 _
          by_cases hk0 : k = 0
          · have NO : Hid (okL n (-1) l = okL n (j : Int) (l.drop (k + 1))) := by
              show _ = _
              have e : t = -1 := by rw [HTt.out, hk0]; rfl
              rw [HO.out, ST.out, decide_eq_true (by omega), Bool.true_and]
            have g0 : ¬ (0 : Int) < (k : Int) := by omega
            clear hk0
            go_wp2
            go_roundw
            case rel => exact ⟨k + 1, (j : Int), by omega, by go_num, PV.out.symm, by omega, NO.out, RS.out, BS.out⟩
            case measure => simp [intOf]; omega
          · obtain ⟨i, hi⟩ : ∃ i : Nat, k = i + 1 := ⟨k - 1, by omega⟩
            have hcell2 := (BL.out.cell (p := ⟨ba, off + i, none⟩) hba).trans (HC.out i (by omega))
            have PT : Hid (t = l.getD i 0) := by show _ = _; rw [HTt.out, hi]; exact prevI_succ l i
            rw [← PT.out] at hcell2
            have g0 : (0 : Int) < (k : Int) := by omega
            have gi : (k : Int) - 1 = (i : Int) := by omega
            have gl : i < l.length := by omega
            have GH : Hid (k = i + 1) := hi
            clear hi hk0
            by_cases hle : (j : Int) ≤ t
            · have E : Hid (r = false) := BAD.out (by omega)
              go_wp2
              go_ret2
              exact ⟨BW.out, .inl ⟨E.out, rfl⟩⟩
            · have NO : Hid (okL n (-1) l = okL n (j : Int) (l.drop (k + 1))) := by
                show _ = _
                rw [HO.out, ST.out, decide_eq_true (by omega), Bool.true_and]
              go_wp2
              go_roundw
              case rel => exact ⟨k + 1, (j : Int), by omega, by go_num, PV.out.symm, by omega, NO.out, RS.out, BS.out⟩
              case measure => simp [intOf]; omega
    · obtain rfl : k = l.length := by omega
      have E : Hid (r = true) := by show _ = _; rw [← HR.out, HO.out]; exact okL_end _ _ _ _ (Nat.le_refl _)
      have F : Hid (Ref wr mb mg p c s n (fOf l)) := by have q := RF.out; rw [List.take_length] at q; exact q
      have Z : Hid (w.heap.size ≤ D.heap.size) := BD.out.size
      go_wp2
      go_ret2
      exact ⟨BW.out, .inr ⟨E.out, mb, mg, rfl, F.out, Nat.le_trans Z.out g1, Nat.le_trans Z.out g2⟩⟩
end Go.Proofs.YtgmljgogmbaioaaGreatDoor
