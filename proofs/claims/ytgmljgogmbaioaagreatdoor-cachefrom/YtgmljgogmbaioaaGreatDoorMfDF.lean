/- The document's cache: what Flush and some do. -/
import Derived.Test.YtgmljgogmbaioaaGreatDoorMfAC
namespace Go.Proofs.YtgmljgogmbaioaaGreatDoor
open Go.RowKit
set_option linter.unusedVariables false
set_option maxRecDepth 4000

/-- A call has turned just the cache's own blocks. -/
def LeftR (M : Nat → Nat) (w : World) (rb P W : Nat) (m : List Sg) (w' : World) : Prop := ∃ M', Rf w' M' rb P W m ∧ Mv M w M' w'
theorem Rm.mid {w : World} {M : Nat → Nat} {rb : Nat} {a : Option Addr} {cap : Nat} {gs : List Nat} {P W : Nat} {A B : List Sg} {s : Sg} (h : Rm w M rb a cap gs P W (A ++ s :: B)) (k : Nat) (hk : A.length = k) : ∃ g q, a = some ⟨g, 0, none⟩ ∧ M g = 2 ∧ g < w.heap.size ∧ gs[k]? = some q ∧ w.cell? ⟨g, k * 4, none⟩ = some (.int .i64 (s.pg : Nat)) ∧ w.cell? ⟨g, k * 4 + 1, none⟩ = some (.int .i64 (s.cl : Nat)) ∧ w.cell? ⟨g, k * 4 + 2, none⟩ = some (.int .i64 (s.bts : Nat)) ∧ w.cell? ⟨g, k * 4 + 3, none⟩ = some (.slice (some ⟨q, 0, none⟩) s.st.length s.st.length) ∧ w.heap[q]? = some (.cells (s.st.map numV).toArray 3 (0, 0)) ∧ M q = 3 + s.pg := by
  subst hk
  have hi : A.length < (A ++ s :: B).length := by simp
  have e : (A ++ s :: B)[A.length] = s := by simp
  have := h.at A.length hi
  rw [e] at this
  exact this
/-- Within a round over spans: the cache and the box of the round's span. -/
structure InM (w wz : World) (M : Nat → Nat) (rb : Nat) (a : Option Addr) (cap : Nat) (gs : List Nat) (P W : Nat) (X : List Sg) (xb p d b q L : Nat) : Prop where
  rm : Rm wz M rb a cap gs P W X
  tu : Tu (fun k => M k ≠ 0) w wz
  bx : Bx4 wz xb p d b q L
  lt : q < xb
theorem InM.put {w wz : World} {M : Nat → Nat} {rb : Nat} {a : Option Addr} {cap : Nat} {gs : List Nat} {P W : Nat} {A B : List Sg} {s : Sg} {xb p d b q L : Nat} (h : InM w wz M rb a cap gs P W (A ++ s :: B) xb p d b q L) (hf : ((A ++ s :: B).map Sg.pg).Pairwise (· < ·)) (j v : Nat) (hj : j < s.st.length) (hq : gs[A.length]? = some q) : InM w (wz.setCell ⟨q, j, none⟩ (.int .i64 (v : Nat))) M rb a cap gs P W (A ++ { s with st := s.st.set j v } :: B) xb p d b q L := by
  obtain ⟨h1, h2, h3⟩ := h.rm.put hf j v q hj hq
  refine ⟨h1, h.tu.trans (Tu.ofOnly h2 (by rw [h3]; omega)), ?_, h.lt⟩
  unfold Bx4
  rw [h2.block _ (by have := h.lt; omega)]
  exact h.bx
theorem setm_mid {α : Type} (pre post : List α) (x v : α) : (pre ++ x :: post).set pre.length v = pre ++ v :: post := by simp
theorem pg_mid {A A' B : List Sg} {s s' : Sg} (h : A'.map Sg.pg = A.map Sg.pg) (h' : s'.pg = s.pg) : (A' ++ s' :: B).map Sg.pg = (A ++ s :: B).map Sg.pg := by simp [h, h']

def flx (u x : Nat) : Nat := if x = u + 2 then 0 else x
def flS (u : Nat) (s : Sg) : Sg := { s with st := s.st.map (flx u) }
theorem gS_map (h : Nat → Nat) (s : Sg) : ∀ (l : List Nat) (i : Nat), gS (fun _ _ x => h x) s i l = l.map h
  | [], _ => rfl
  | x :: l, i => by rw [gS, gS_map h s l (i + 1)]; rfl
theorem flush_map (u : Nat) (m : List Sg) : flushM u m = m.map (flS u) := by
  unfold flushM turnM
  refine List.map_congr_left (fun s _ => ?_)
  unfold Sg.turn flS
  rw [show (fun (_ : Nat) (_ : Nat) (x : Nat) => if x = u + 2 then 0 else x) = (fun _ _ x => flx u x) from rfl, gS_map]

set_option maxRecDepth 20000 in
set_option maxHeartbeats 4000000 in
theorem mflush_any (M : Nat → Nat) (rb P W : Nat) (m : List Sg) (v : Int) (w : World) (h : Rf w M rb P W m) (ho : Okc P W m) (h2 : 2 ≤ w.heap.size) (r : Nat) (m' : List Sg) (hr : (if 0 ≤ v ∧ v < (W : Int) then (0, flushM v.toNat m) else (2, m)) = (r, m')) :
    Calls Tryz.prog 37 #[.pointer (some ⟨rb, 0, none⟩), .int .i64 v] w fun e w' => e = .returned (.int .i64 (r : Nat)) ∧ LeftR M w rb P W m' w' := by
  obtain ⟨a, cap, gs, hR⟩ := h
  have HR : Hid (Rm w M rb a cap gs P W m) := hR
  have HO : Hid (Okc P W m) := ho
  have H2 : Hid (2 ≤ w.heap.size) := h2
  have b1 := hR.box1
  have b2 := hR.box2
  have hml := ho.fit.len
  have hP := ho.p1
  have hW := ho.w1
  by_cases hv : 0 ≤ v ∧ v < (W : Int)
  · rw [if_pos hv] at hr
    obtain ⟨u, rfl⟩ : ∃ u : Nat, v = u := ⟨v.toNat, by omega⟩
    rw [Int.toNat_natCast] at hr
    cases hr
    have HF : Hid (flushM u m = m.map (flS u)) := flush_map u m
    have PG : Hid ((m.map Sg.pg).Pairwise (· < ·)) := ho.fit.pgs.1
    obtain ⟨n, hn⟩ : ∃ n, m.length = n := ⟨_, rfl⟩
    have HN : Hid (m.length = n) := hn
    rw [hn] at b2 hml
    have u0 : ¬ ((u : Int) < 0) := by omega
    have u1 : ¬ ((W : Int) ≤ (u : Int)) := by omega
    have u2 : IntKind.i64.wrap (2 + (u : Int)) = 2 + (u : Int) := by rw [IntKind.wrap_i64]; omega
    clear hR ho hn h2 hv
    rw [HF.out]
    go_enter Tryz.func37, Tryz.ntmps37
    go_wp2_with fail
    go_loopw [23] (fun iv wr => ∃ k : Nat, k ≤ n ∧ iv = .int .i64 (k : Nat) ∧ Rm wr M rb a cap gs P W ((m.take k).map (flS u) ++ m.drop k) ∧ Tu (fun k => M k ≠ 0) w wr) (fun iv _ => n - lenW iv)
    case atStart => exact ⟨0, Nat.zero_le _, rfl, by simpa using HR.out, Tu.refl _ _⟩
    case round =>
      obtain ⟨k, hk, rfl, hRk, hTk⟩ := hrel
      rename World => wr
      have HTK : Hid (Tu (fun k => M k ≠ 0) w wr) := hTk
      by_cases hkn : k < n
      · have hkm : k < m.length := by rw [HN.out]; exact hkn
        have hA : ((m.take k).map (flS u)).length = k := by simp; omega
        have eq1 : m.drop k = m[k] :: m.drop (k + 1) := List.drop_eq_getElem_cons hkm
        have eq2 : (m.take (k + 1)).map (flS u) = (m.take k).map (flS u) ++ [flS u m[k]] := by rw [List.take_succ_eq_append_getElem hkm, List.map_append]; rfl
        have OKs := (HO.out.fit.ok _ (List.getElem_mem hkm)).1
        have PGk : (((m.take k).map (flS u) ++ m[k] :: m.drop (k + 1)).map Sg.pg).Pairwise (· < ·) := by
          have e : ((m.take k).map (flS u) ++ m[k] :: m.drop (k + 1)).map Sg.pg = m.map Sg.pg := by
            rw [← eq1, List.map_append, List.map_map, show (Sg.pg ∘ flS u) = Sg.pg from rfl, ← List.map_append, List.take_append_drop]
          rw [e]; exact PG.out
        obtain ⟨s, hs⟩ : ∃ s, m[k] = s := ⟨_, rfl⟩
        rw [hs] at eq1 eq2 PGk OKs
        obtain ⟨A, hAA⟩ : ∃ A, (m.take k).map (flS u) = A := ⟨_, rfl⟩
        obtain ⟨B, hBB⟩ : ∃ B, m.drop (k + 1) = B := ⟨_, rfl⟩
        rw [hAA] at hA eq2 PGk
        rw [hBB] at eq1 PGk
        rw [hAA, eq1] at hRk
        have HA : Hid (A.length = k) := hA
        have EQ2 : Hid ((m.take (k + 1)).map (flS u) ++ m.drop (k + 1) = A ++ flS u s :: B) := by show _ = _; rw [eq2, hBB]; simp
        have PGK : Hid (((A ++ s :: B).map Sg.pg).Pairwise (· < ·)) := PGk
        have HRK : Hid (Rm wr M rb a cap gs P W (A ++ s :: B)) := hRk
        obtain ⟨g, q, rfl, hg2, hgl, hq, c0, c1, c2, c3, cq, hMq⟩ := hRk.mid k hA
        have GQ : Hid (gs[k]? = some q) := hq
        have QL : Hid (q < wr.heap.size) := hlt cq
        obtain ⟨f1, f2, _⟩ := OKs.facts
        obtain ⟨p, hp⟩ : ∃ p, s.pg = p := ⟨_, rfl⟩
        obtain ⟨b, hb⟩ : ∃ b, s.bts = b := ⟨_, rfl⟩
        obtain ⟨d, hd⟩ : ∃ d, s.cl = d := ⟨_, rfl⟩
        obtain ⟨L, hL⟩ : ∃ L, s.st.length = L := ⟨_, rfl⟩
        have HLL : Hid (s.st.length = L) := hL
        rw [hp] at c0
        rw [hd] at c1
        rw [hb] at c2
        rw [hL] at c3 f2
        have TWO : Hid (2 ≤ wr.heap.size) := Nat.le_trans H2.out HTK.out.size
        have EB : Hid (Below wr.heap.size wr (mbox wr p d b q L)) := mbox_below wr p d b q L
        have HE : Hid (wr.alloc (.cells #[.int .i64 (p : Nat), .int .i64 (d : Nat), .int .i64 (b : Nat), .slice (some ⟨q, 0, none⟩) L L] 75) = mbox wr p d b q L) := rfl
        have IN0 : Hid (InM w (mbox wr p d b q L) M rb (some ⟨g, 0, none⟩) cap gs P W (A ++ s :: B) wr.heap.size p d b q L) := ⟨HRK.out.keep (Ext.refl _ _) TWO.out EB.out, HTK.out.trans (Tu.ofBelow EB.out), mbox_4 wr p d b q L, QL.out⟩
        obtain ⟨E, hE⟩ : ∃ E, mbox wr p d b q L = E := ⟨_, rfl⟩
        rw [hE] at EB HE IN0
        clear hs hAA hBB hA eq1 eq2 PGk hRk hTk hq cq hMq hg2 hp hb hd hL hE OKs f1
        have k0 : (k : Int) < (n : Int) := by omega
        go_upto_region 6 with (fail)
        rw [HE.out]
        obtain ⟨e0, e1, e2, e3⟩ := IN0.out.bx.cells
        go_wp2_with fail
        go_loopw [30] (fun jv wz => ∃ j : Nat, j ≤ L ∧ jv = .int .i64 (j : Nat) ∧ InM w wz M rb (some ⟨g, 0, none⟩) cap gs P W (A ++ { s with st := (s.st.take j).map (flx u) ++ s.st.drop j } :: B) wr.heap.size p d b q L) (fun jv _ => L - lenW jv)
        case atStart => exact ⟨0, Nat.zero_le _, rfl, by simpa using IN0.out⟩
        case round =>
          clear e0 e1 e2 e3
          obtain ⟨j, hj, rfl, hI⟩ := hrel
          rename World => wz
          have HI : Hid (InM w wz M rb (some ⟨g, 0, none⟩) cap gs P W (A ++ { s with st := (s.st.take j).map (flx u) ++ s.st.drop j } :: B) wr.heap.size p d b q L) := hI
          obtain ⟨d0, d1, d2, d3⟩ := hI.bx.cells
          by_cases hjL : j < L
          · have hjs : j < s.st.length := by rw [HLL.out]; exact hjL
            have eq3 : s.st.drop j = s.st[j] :: s.st.drop (j + 1) := List.drop_eq_getElem_cons hjs
            have eq4 : (s.st.take (j + 1)).map (flx u) = (s.st.take j).map (flx u) ++ [flx u s.st[j]] := by rw [List.take_succ_eq_append_getElem hjs, List.map_append]; rfl
            have hpl : ((s.st.take j).map (flx u)).length = j := by simp; omega
            obtain ⟨y, hy⟩ : ∃ y, s.st[j] = y := ⟨_, rfl⟩
            rw [hy] at eq3 eq4
            obtain ⟨_, q', _, _, _, hq', _, _, _, _, cq', _⟩ := hI.rm.mid k HA.out
            obtain rfl : q = q' := by rw [GQ.out] at hq'; exact Option.some.inj hq'
            have hjx : j < ((s.st.take j).map (flx u) ++ s.st.drop j).length := by rw [List.length_append, hpl, List.length_drop]; omega
            have hcel := st_cell cq' j hjx
            have hval : ((s.st.take j).map (flx u) ++ s.st.drop j)[j] = y := by
              rw [List.getElem_append_right (by omega)]
              simp only [hpl, Nat.sub_self]
              simp only [eq3, List.getElem_cons_zero]
            rw [hval] at hcel
            have cz := hcel
            have NXT : Hid ((s.st.take (j + 1)).map (flx u) ++ s.st.drop (j + 1) = ((s.st.take j).map (flx u) ++ s.st.drop j).set j (flx u y)) := by
              show _ = _
              rw [eq4, eq3]
              have := setm_mid ((s.st.take j).map (flx u)) (s.st.drop (j + 1)) y (flx u y)
              rw [hpl] at this
              rw [this]; simp
            have FZ : wz.frozen? ⟨q, j, none⟩ = false := frozen_of_row _ _ _ _ _ cq'
            have j0 : (j : Int) < (L : Int) := by omega
            by_cases hyu : y = u + 2
            · have e2 : ((y : Int) == 2 + (u : Int)) = true := by rw [beq_iff_eq]; omega
              have NI : Hid (InM w (wz.setCell ⟨q, j, none⟩ (.int .i64 0)) M rb (some ⟨g, 0, none⟩) cap gs P W (A ++ { s with st := (s.st.take (j + 1)).map (flx u) ++ s.st.drop (j + 1) } :: B) wr.heap.size p d b q L) := by
                show InM _ _ _ _ _ _ _ _ _ _ _ _ _ _ _ _
                have := HI.out.put (by have e := PGK.out; simp only [List.map_append, List.map_cons] at e ⊢; exact e) j 0 hjx (by rw [HA.out]; exact GQ.out)
                rw [NXT.out, show flx u y = 0 from if_pos hyu]
                exact this
              clear hI hy eq3 eq4 hpl hq' cq' hjx hcel hval hyu hjs
              go_wp2
              go_roundw
              case rel => exact ⟨j + 1, by omega, by congr 1, NI.out⟩
              case measure => simp [lenW]; omega
            · have e2 : ((y : Int) == 2 + (u : Int)) = false := by rw [beq_eq_false_iff_ne]; omega
              have NI : Hid (InM w wz M rb (some ⟨g, 0, none⟩) cap gs P W (A ++ { s with st := (s.st.take (j + 1)).map (flx u) ++ s.st.drop (j + 1) } :: B) wr.heap.size p d b q L) := by
                show InM _ _ _ _ _ _ _ _ _ _ _ _ _ _ _ _
                rw [NXT.out, show flx u y = y from if_neg hyu]
                have : ((s.st.take j).map (flx u) ++ s.st.drop j).set j y = (s.st.take j).map (flx u) ++ s.st.drop j := by rw [← hval]; exact List.set_getElem_self hjx
                rw [this]
                exact HI.out
              clear hI hy eq3 eq4 hpl hq' cq' hjx hcel hval hyu hjs FZ
              go_wp2
              go_roundw
              case rel => exact ⟨j + 1, by omega, by congr 1, NI.out⟩
              case measure => simp [lenW]; omega
          · obtain rfl : j = L := by omega
            have NI : Hid (Rm wz M rb (some ⟨g, 0, none⟩) cap gs P W ((m.take (k + 1)).map (flS u) ++ m.drop (k + 1)) ∧ Tu (fun k => M k ≠ 0) w wz) := by
              have e : ({ s with st := (s.st.take j).map (flx u) ++ s.st.drop j } : Sg) = flS u s := by
                unfold flS
                rw [List.take_of_length_le (Nat.le_of_eq HLL.out), List.drop_of_length_le (Nat.le_of_eq HLL.out), List.append_nil]
              refine ⟨?_, HI.out.tu⟩
              rw [EQ2.out, ← e]
              exact HI.out.rm
            clear hI
            go_wp2
            go_roundw
            case rel => exact ⟨k + 1, by omega, by congr 1, NI.out.1, NI.out.2⟩
            case measure => simp [lenW]; omega
      · obtain rfl : k = n := by omega
        have F : Hid (LeftR M w rb P W (m.map (flS u)) wr) := by
          refine ⟨M, ⟨a, cap, gs, ?_⟩, ⟨Ext.refl _ _, HTK.out⟩⟩
          rw [List.take_of_length_le (Nat.le_of_eq HN.out), List.drop_of_length_le (Nat.le_of_eq HN.out), List.append_nil] at hRk
          exact hRk
        clear hRk hTk
        go_wp2
        go_ret
        exact ⟨rfl, F.out⟩
  · rw [if_neg hv] at hr
    cases hr
    have F : Hid (LeftR M w rb P W m w) := ⟨M, ⟨a, cap, gs, hR⟩, Mv.refl _ _⟩
    clear hR ho h2
    rcases Int.lt_or_le v 0 with hn | hn
    · clear hv
      go_enter Tryz.func37, Tryz.ntmps37
      go_wp2
      go_ret
      exact ⟨rfl, F.out⟩
    · have hn' : (W : Int) ≤ v := by omega
      clear hv
      go_enter Tryz.func37, Tryz.ntmps37
      go_wp2
      go_ret
      exact ⟨rfl, F.out⟩
end Go.Proofs.YtgmljgogmbaioaaGreatDoor

/- The document's cache: what some does. -/
namespace Go.Proofs.YtgmljgogmbaioaaGreatDoor
open Go.RowKit
set_option linter.unusedVariables false
set_option maxRecDepth 4000

/-- How many slots are still to be taken. -/
def leftB (c : Nat) : Nat → List Sg → Nat
  | b, [] => b
  | b, s :: l => if s.cl = c then leftB c (someLeft b s.st) l else leftB c b l
theorem someB_snoc (u c : Nat) (s : Sg) : ∀ (l : List Sg) (b : Nat), someB u c b (l ++ [s]) = someB u c b l ++ [if s.cl = c then { s with st := someSt u (leftB c b l) s.st } else s]
  | [], b => by
    simp only [List.nil_append, someB, leftB]
    split <;> rfl
  | t :: l, b => by
    rw [List.cons_append, someB, someB, leftB]
    split
    · rw [someB_snoc u c s l]; rfl
    · rw [someB_snoc u c s l]; rfl
theorem leftB_snoc (c : Nat) (s : Sg) : ∀ (l : List Sg) (b : Nat), leftB c b (l ++ [s]) = if s.cl = c then someLeft (leftB c b l) s.st else leftB c b l
  | [], b => by simp [leftB]
  | t :: l, b => by
    rw [List.cons_append, leftB, leftB]
    split
    · exact leftB_snoc c s l _
    · exact leftB_snoc c s l _
theorem leftB_eq (c : Nat) : ∀ (m : List Sg) (b : Nat), leftB c b m = b - (freeP c m).length
  | [], b => by simp [leftB, freeP, pl]
  | s :: l, b => by
    rw [leftB, freeP_cons, List.length_append]
    split
    · rw [leftB_eq c l, someLeft_eq, plS_len]; omega
    · rw [leftB_eq c l]; simp
theorem someSt_snoc (u x : Nat) : ∀ (l : List Nat) (b : Nat), someSt u b (l ++ [x]) = someSt u b l ++ [if x = 0 ∧ 0 < someLeft b l then u + 2 else x]
  | [], b => by
    have e : someLeft b [] = b := rfl
    rw [e, List.nil_append, someSt, someSt, someSt]
    by_cases h : x = 0 ∧ 0 < b
    · rw [if_pos h, if_pos h]; rfl
    · rw [if_neg h, if_neg h]; rfl
  | y :: l, b => by
    rw [List.cons_append, someSt, someSt, someLeft]
    split
    · rw [someSt_snoc u x l]; rfl
    · rw [someSt_snoc u x l]; rfl
theorem someLeft_snoc (x : Nat) : ∀ (l : List Nat) (b : Nat), someLeft b (l ++ [x]) = if x = 0 ∧ 0 < someLeft b l then someLeft b l - 1 else someLeft b l
  | [], b => by
    have e : someLeft b [] = b := rfl
    rw [e, List.nil_append, someLeft]
    by_cases h : x = 0 ∧ 0 < b
    · rw [if_pos h, if_pos h]; rfl
    · rw [if_neg h, if_neg h]; rfl
  | y :: l, b => by
    rw [List.cons_append, someLeft, someLeft]
    split
    · exact someLeft_snoc x l _
    · exact someLeft_snoc x l _
theorem someLeft_le : ∀ (l : List Nat) (b : Nat), someLeft b l ≤ b := fun l b => by rw [someLeft_eq]; omega
theorem someB_len (u c : Nat) : ∀ (m : List Sg) (b : Nat), (someB u c b m).length = m.length ∧ (someB u c b m).map Sg.pg = m.map Sg.pg
  | [], _ => ⟨rfl, rfl⟩
  | s :: l, b => by
    rw [someB]
    split
    · obtain ⟨h1, h2⟩ := someB_len u c l (someLeft b s.st)
      exact ⟨by simp [h1], by simp [h2]⟩
    · obtain ⟨h1, h2⟩ := someB_len u c l b
      exact ⟨by simp [h1], by simp [h2]⟩
set_option maxRecDepth 20000 in
set_option maxHeartbeats 4000000 in
theorem msome_any (M : Nat → Nat) (rb P W : Nat) (m : List Sg) (u c : Nat) (w : World) (h : Rf w M rb P W m) (ho : Okc P W m) (h2 : 2 ≤ w.heap.size) (hu : u < W) (N : Nat) (hNN : 4 - (4 - (freeP c m).length) = N) :
    Calls Tryz.prog 69 #[.pointer (some ⟨rb, 0, none⟩), .int .i64 (u : Nat), .int .i64 (c : Nat)] w fun e w' => e = .returned (.int .i64 (N : Nat)) ∧ LeftR M w rb P W (someM u c m) w' := by
  obtain ⟨a, cap, gs, hR⟩ := h
  have HR : Hid (Rm w M rb a cap gs P W m) := hR
  have HO : Hid (Okc P W m) := ho
  have H2 : Hid (2 ≤ w.heap.size) := h2
  have b2 := hR.box2
  have hml := ho.fit.len
  have hP := ho.p1
  have hW := ho.w1
  have HF : Hid (someM u c m = someB u c 4 m) := by show _ = _; rw [some_eq u c ho.fit]; rfl
  have HNN : Hid (4 - leftB c 4 m = N) := by show _ = _; rw [leftB_eq]; exact hNN
  have PG : Hid ((m.map Sg.pg).Pairwise (· < ·)) := ho.fit.pgs.1
  obtain ⟨n, hn⟩ : ∃ n, m.length = n := ⟨_, rfl⟩
  have HN : Hid (m.length = n) := hn
  rw [hn] at b2 hml
  have u2 : IntKind.i64.wrap (2 + (u : Int)) = 2 + (u : Int) := by rw [IntKind.wrap_i64]; omega
  clear hR ho hn h2 hNN
  rw [HF.out]
  go_enter Tryz.func69, Tryz.ntmps69
  go_wp2_with fail
  go_loopw [7, 16] (fun nv iv wr => ∃ k x : Nat, k ≤ n ∧ iv = .int .i64 (k : Nat) ∧ nv = .int .i64 (x : Nat) ∧ 4 - leftB c 4 (m.take k) = x ∧ Rm wr M rb a cap gs P W (someB u c 4 (m.take k) ++ m.drop k) ∧ Tu (fun k => M k ≠ 0) w wr) (fun _ iv _ => n - lenW iv)
  case atStart => exact ⟨0, 0, Nat.zero_le _, rfl, rfl, by simp [leftB], by simpa [someB] using HR.out, Tu.refl _ _⟩
  case round =>
    obtain ⟨k, x, hk, rfl, rfl, hx, hRk, hTk⟩ := hrel
    rename World => wr
    have HX : Hid (4 - leftB c 4 (m.take k) = x) := hx
    have HTK : Hid (Tu (fun k => M k ≠ 0) w wr) := hTk
    by_cases hkn : k < n
    · have hkm : k < m.length := by rw [HN.out]; exact hkn
      have hA : (someB u c 4 (m.take k)).length = k := by rw [(someB_len u c _ _).1]; simp; omega
      have eq1 : m.drop k = m[k] :: m.drop (k + 1) := List.drop_eq_getElem_cons hkm
      have eq2 : someB u c 4 (m.take (k + 1)) = someB u c 4 (m.take k) ++ [if m[k].cl = c then { m[k] with st := someSt u (leftB c 4 (m.take k)) m[k].st } else m[k]] := by rw [List.take_succ_eq_append_getElem hkm, someB_snoc]
      have eq5 : leftB c 4 (m.take (k + 1)) = if m[k].cl = c then someLeft (leftB c 4 (m.take k)) m[k].st else leftB c 4 (m.take k) := by rw [List.take_succ_eq_append_getElem hkm, leftB_snoc]
      have OKs := (HO.out.fit.ok _ (List.getElem_mem hkm)).1
      have PGk : ((someB u c 4 (m.take k) ++ m[k] :: m.drop (k + 1)).map Sg.pg).Pairwise (· < ·) := by
        have e : (someB u c 4 (m.take k) ++ m[k] :: m.drop (k + 1)).map Sg.pg = m.map Sg.pg := by
          rw [← eq1, List.map_append, (someB_len u c _ _).2, ← List.map_append, List.take_append_drop]
        rw [e]; exact PG.out
      have hbk : leftB c 4 (m.take k) ≤ 4 := by rw [leftB_eq]; omega
      obtain ⟨s, hs⟩ : ∃ s, m[k] = s := ⟨_, rfl⟩
      rw [hs] at eq1 eq2 PGk OKs eq5
      obtain ⟨bk, hbb⟩ : ∃ bk, leftB c 4 (m.take k) = bk := ⟨_, rfl⟩
      rw [hbb] at eq2 eq5 hx hbk
      obtain ⟨A, hAA⟩ : ∃ A, someB u c 4 (m.take k) = A := ⟨_, rfl⟩
      obtain ⟨B, hBB⟩ : ∃ B, m.drop (k + 1) = B := ⟨_, rfl⟩
      rw [hAA] at hA eq2 PGk
      rw [hBB] at eq1 PGk
      rw [hAA, eq1] at hRk
      have HA : Hid (A.length = k) := hA
      have EQ2 : Hid (someB u c 4 (m.take (k + 1)) ++ m.drop (k + 1) = A ++ (if s.cl = c then { s with st := someSt u bk s.st } else s) :: B) := by show _ = _; rw [eq2, hBB]; simp
      have EQ5 : Hid (leftB c 4 (m.take (k + 1)) = if s.cl = c then someLeft bk s.st else bk) := eq5
      have PGK : Hid (((A ++ s :: B).map Sg.pg).Pairwise (· < ·)) := PGk
      have HRK : Hid (Rm wr M rb a cap gs P W (A ++ s :: B)) := hRk
      obtain ⟨g, q, rfl, hg2, hgl, hq, c0, c1, c2, c3, cq, hMq⟩ := hRk.mid k hA
      have GQ : Hid (gs[k]? = some q) := hq
      have QL : Hid (q < wr.heap.size) := hlt cq
      obtain ⟨f1, f2, _⟩ := OKs.facts
      have SL : Hid (∀ j, someLeft bk (s.st.take j) ≤ 4) := fun j => Nat.le_trans (someLeft_le _ _) hbk
      obtain ⟨p, hp⟩ : ∃ p, s.pg = p := ⟨_, rfl⟩
      obtain ⟨b, hb⟩ : ∃ b, s.bts = b := ⟨_, rfl⟩
      obtain ⟨d, hd⟩ : ∃ d, s.cl = d := ⟨_, rfl⟩
      obtain ⟨L, hL⟩ : ∃ L, s.st.length = L := ⟨_, rfl⟩
      have HLL : Hid (s.st.length = L) := hL
      rw [hp] at c0
      rw [hd] at c1
      have HDS : Hid (s.cl = d) := hd
      rw [hb] at c2
      rw [hL] at c3 f2
      have TWO : Hid (2 ≤ wr.heap.size) := Nat.le_trans H2.out HTK.out.size
      have EB : Hid (Below wr.heap.size wr (mbox wr p d b q L)) := mbox_below wr p d b q L
      have HE : Hid (wr.alloc (.cells #[.int .i64 (p : Nat), .int .i64 (d : Nat), .int .i64 (b : Nat), .slice (some ⟨q, 0, none⟩) L L] 75) = mbox wr p d b q L) := rfl
      have IN0 : Hid (InM w (mbox wr p d b q L) M rb (some ⟨g, 0, none⟩) cap gs P W (A ++ s :: B) wr.heap.size p d b q L) := ⟨HRK.out.keep (Ext.refl _ _) TWO.out EB.out, HTK.out.trans (Tu.ofBelow EB.out), mbox_4 wr p d b q L, QL.out⟩
      obtain ⟨E, hE⟩ : ∃ E, mbox wr p d b q L = E := ⟨_, rfl⟩
      rw [hE] at EB HE IN0
      have HXB : Hid (4 - bk = x) := hx
      have hx4 : x ≤ 4 := by omega
      clear hs hAA hBB hA eq1 eq2 eq5 PGk hRk hTk hq cq hMq hg2 hp hb hd hL hE OKs f1 hx hbb hbk
      have k0 : (k : Int) < (n : Int) := by omega
      by_cases hdc : d = c
      · have e1 : ((d : Int) == (c : Int)) = true := by rw [beq_iff_eq]; omega
        have HDC : Hid (s.cl = c) := HDS.out.trans hdc
        clear hdc
        go_upto_region 5 with (fail)
        rw [HE.out]
        obtain ⟨e0, e1', e2, e3⟩ := IN0.out.bx.cells
        go_wp2_with fail
        go_loopw [7, 23] (fun nv jv wz => ∃ j y : Nat, j ≤ L ∧ jv = .int .i64 (j : Nat) ∧ nv = .int .i64 (y : Nat) ∧ 4 - someLeft bk (s.st.take j) = y ∧ InM w wz M rb (some ⟨g, 0, none⟩) cap gs P W (A ++ { s with st := someSt u bk (s.st.take j) ++ s.st.drop j } :: B) wr.heap.size p d b q L) (fun _ jv _ => L - lenW jv)
        case atStart => exact ⟨0, x, Nat.zero_le _, rfl, rfl, by simpa [someLeft] using HXB.out, by simpa [someSt] using IN0.out⟩
        case round =>
          clear e0 e1' e2 e3
          obtain ⟨j, t, hj, rfl, rfl, ht, hI⟩ := hrel
          rename World => wz
          have hsl := SL.out j
          have HI : Hid (InM w wz M rb (some ⟨g, 0, none⟩) cap gs P W (A ++ { s with st := someSt u bk (s.st.take j) ++ s.st.drop j } :: B) wr.heap.size p d b q L) := hI
          obtain ⟨d0, d1, d2, d3⟩ := hI.bx.cells
          by_cases hjL : j < L
          · have hjs : j < s.st.length := by rw [HLL.out]; exact hjL
            have eq3 : s.st.drop j = s.st[j] :: s.st.drop (j + 1) := List.drop_eq_getElem_cons hjs
            have eq4 : someSt u bk (s.st.take (j + 1)) = someSt u bk (s.st.take j) ++ [if s.st[j] = 0 ∧ 0 < someLeft bk (s.st.take j) then u + 2 else s.st[j]] := by rw [List.take_succ_eq_append_getElem hjs, someSt_snoc]
            have eq6 : someLeft bk (s.st.take (j + 1)) = if s.st[j] = 0 ∧ 0 < someLeft bk (s.st.take j) then someLeft bk (s.st.take j) - 1 else someLeft bk (s.st.take j) := by rw [List.take_succ_eq_append_getElem hjs, someLeft_snoc]
            have hpl : (someSt u bk (s.st.take j)).length = j := by rw [someSt_len]; simp; omega
            obtain ⟨y, hy⟩ : ∃ y, s.st[j] = y := ⟨_, rfl⟩
            rw [hy] at eq3 eq4 eq6
            obtain ⟨_, q', _, _, _, hq', _, _, _, _, cq', _⟩ := hI.rm.mid k HA.out
            obtain rfl : q = q' := by rw [GQ.out] at hq'; exact Option.some.inj hq'
            have hjx : j < (someSt u bk (s.st.take j) ++ s.st.drop j).length := by rw [List.length_append, hpl, List.length_drop]; omega
            have hcel := st_cell cq' j hjx
            have hval : (someSt u bk (s.st.take j) ++ s.st.drop j)[j] = y := by
              rw [List.getElem_append_right (by omega)]
              simp only [hpl, Nat.sub_self]
              simp only [eq3, List.getElem_cons_zero]
            rw [hval] at hcel
            have cz := hcel
            have NXT : Hid (someSt u bk (s.st.take (j + 1)) ++ s.st.drop (j + 1) = (someSt u bk (s.st.take j) ++ s.st.drop j).set j (if y = 0 ∧ 0 < someLeft bk (s.st.take j) then u + 2 else y)) := by
              show _ = _
              rw [eq4, eq3]
              have := setm_mid (someSt u bk (s.st.take j)) (s.st.drop (j + 1)) y (if y = 0 ∧ 0 < someLeft bk (s.st.take j) then u + 2 else y)
              rw [hpl] at this
              rw [this]; simp
            have FZ : wz.frozen? ⟨q, j, none⟩ = false := frozen_of_row _ _ _ _ _ cq'
            have j0 : (j : Int) < (L : Int) := by omega
            by_cases hy0 : y = 0 ∧ 0 < someLeft bk (s.st.take j)
            · have e2 : ((y : Int) == 0) = true := by rw [beq_iff_eq]; omega
              have t4 : (t : Int) < 4 := by omega
              have NT : Hid (4 - someLeft bk (s.st.take (j + 1)) = t + 1) := by show _ = _; rw [eq6, if_pos hy0]; omega
              have NI : Hid (InM w (wz.setCell ⟨q, j, none⟩ (.int .i64 (2 + (u : Int)))) M rb (some ⟨g, 0, none⟩) cap gs P W (A ++ { s with st := someSt u bk (s.st.take (j + 1)) ++ s.st.drop (j + 1) } :: B) wr.heap.size p d b q L) := by
                show InM _ _ _ _ _ _ _ _ _ _ _ _ _ _ _ _
                have := HI.out.put (by have e := PGK.out; simp only [List.map_append, List.map_cons] at e ⊢; exact e) j (u + 2) hjx (by rw [HA.out]; exact GQ.out)
                rw [NXT.out, if_pos hy0, show (2 + (u : Int)) = ((u + 2 : Nat) : Int) by omega]
                exact this
              clear hI hy eq3 eq4 eq6 hpl hq' cq' hjx hcel hval hy0 hjs ht hsl
              go_wp2
              go_roundw
              case rel => exact ⟨j + 1, t + 1, by omega, by congr 1, by congr 1, NT.out, NI.out⟩
              case measure => simp [lenW]; omega
            · have NT : Hid (4 - someLeft bk (s.st.take (j + 1)) = t) := by show _ = _; rw [eq6, if_neg hy0]; exact ht
              have NI : Hid (InM w wz M rb (some ⟨g, 0, none⟩) cap gs P W (A ++ { s with st := someSt u bk (s.st.take (j + 1)) ++ s.st.drop (j + 1) } :: B) wr.heap.size p d b q L) := by
                show InM _ _ _ _ _ _ _ _ _ _ _ _ _ _ _ _
                rw [NXT.out, if_neg hy0]
                have : (someSt u bk (s.st.take j) ++ s.st.drop j).set j y = someSt u bk (s.st.take j) ++ s.st.drop j := by rw [← hval]; exact List.set_getElem_self hjx
                rw [this]
                exact HI.out
              by_cases hyy : y = 0
              · have e2 : ((y : Int) == 0) = true := by rw [beq_iff_eq]; omega
                have t4 : ¬ ((t : Int) < 4) := by omega
                clear hI hy eq3 eq4 eq6 hpl hq' cq' hjx hcel hval hy0 hjs FZ ht hsl hyy
                go_wp2
                go_roundw
                case rel => exact ⟨j + 1, t, by omega, by congr 1, rfl, NT.out, NI.out⟩
                case measure => simp [lenW]; omega
              · have e2 : ((y : Int) == 0) = false := by rw [beq_eq_false_iff_ne]; omega
                clear hI hy eq3 eq4 eq6 hpl hq' cq' hjx hcel hval hy0 hjs FZ ht hsl hyy
                go_wp2
                go_roundw
                case rel => exact ⟨j + 1, t, by omega, by congr 1, rfl, NT.out, NI.out⟩
                case measure => simp [lenW]; omega
          · obtain rfl : j = L := by omega
            have NT : Hid (4 - leftB c 4 (m.take (k + 1)) = t) := by show _ = _; rw [EQ5.out, if_pos HDC.out]; rw [List.take_of_length_le (Nat.le_of_eq HLL.out)] at ht; exact ht
            have NI : Hid (Rm wz M rb (some ⟨g, 0, none⟩) cap gs P W (someB u c 4 (m.take (k + 1)) ++ m.drop (k + 1)) ∧ Tu (fun k => M k ≠ 0) w wz) := by
              have e : ({ s with st := someSt u bk (s.st.take j) ++ s.st.drop j } : Sg) = { s with st := someSt u bk s.st } := by
                rw [List.take_of_length_le (Nat.le_of_eq HLL.out), List.drop_of_length_le (Nat.le_of_eq HLL.out), List.append_nil]
              refine ⟨?_, HI.out.tu⟩
              rw [EQ2.out, if_pos HDC.out, ← e]
              exact HI.out.rm
            clear hI ht hsl
            go_wp2
            go_roundw
            case rel => exact ⟨k + 1, t, by omega, by congr 1, rfl, NT.out, NI.out.1, NI.out.2⟩
            case measure => simp [lenW]; omega
      · have e1 : ((d : Int) == (c : Int)) = false := by rw [beq_eq_false_iff_ne]; omega
        have NT : Hid (4 - leftB c 4 (m.take (k + 1)) = x) := by show _ = _; rw [EQ5.out, if_neg (fun e => hdc (HDS.out.symm.trans e))]; exact HXB.out
        have NI : Hid (∀ wz, InM w wz M rb (some ⟨g, 0, none⟩) cap gs P W (A ++ s :: B) wr.heap.size p d b q L → Rm wz M rb (some ⟨g, 0, none⟩) cap gs P W (someB u c 4 (m.take (k + 1)) ++ m.drop (k + 1)) ∧ Tu (fun k => M k ≠ 0) w wz) := fun wz h => by rw [EQ2.out, if_neg (fun e => hdc (HDS.out.symm.trans e))]; exact ⟨h.rm, h.tu⟩
        clear hdc
        go_upto_region 5 with (fail)
        rw [HE.out]
        obtain ⟨e0, e1', e2, e3⟩ := IN0.out.bx.cells
        go_wp2_with fail
        go_loopw [7, 23] (fun nv jv wz => ∃ j : Nat, j ≤ L ∧ jv = .int .i64 (j : Nat) ∧ nv = .int .i64 (x : Nat) ∧ E = wz) (fun _ jv _ => L - lenW jv)
        case atStart => exact ⟨0, Nat.zero_le _, rfl, rfl, rfl⟩
        case round =>
          obtain ⟨j, hj, rfl, rfl, rfl⟩ := hrel
          by_cases hjL : j < L
          · have j0 : (j : Int) < (L : Int) := by omega
            go_wp2
            go_roundw
            case rel => exact ⟨j + 1, by omega, by congr 1, by trivial⟩
            case measure => simp [lenW]; omega
          · obtain rfl : j = L := by omega
            obtain ⟨z1, z2⟩ := NI.out _ IN0.out
            have Z1 : Hid (Rm E M rb (some ⟨g, 0, none⟩) cap gs P W (someB u c 4 (m.take (k + 1)) ++ m.drop (k + 1))) := z1
            have Z2 : Hid (Tu (fun k => M k ≠ 0) w E) := z2
            clear z1 z2
            go_wp2
            go_roundw
            case rel => exact ⟨k + 1, x, by omega, by congr 1, rfl, NT.out, Z1.out, Z2.out⟩
            case measure => simp [lenW]; omega
    · obtain rfl : k = n := by omega
      have F : Hid (LeftR M w rb P W (someB u c 4 m) wr ∧ x = N) := by
        refine ⟨⟨M, ⟨a, cap, gs, ?_⟩, ⟨Ext.refl _ _, HTK.out⟩⟩, ?_⟩
        · rw [List.take_of_length_le (Nat.le_of_eq HN.out), List.drop_of_length_le (Nat.le_of_eq HN.out), List.append_nil] at hRk
          exact hRk
        · rw [← HX.out, List.take_of_length_le (Nat.le_of_eq HN.out)]; exact HNN.out
      clear hRk hTk hx
      go_wp2
      go_ret
      exact ⟨by rw [← F.out.2]; rfl, F.out.1⟩
end Go.Proofs.YtgmljgogmbaioaaGreatDoor

/- The document's cache: rows of spans made anew; what drop does. -/
namespace Go.Proofs.YtgmljgogmbaioaaGreatDoor
open Go.RowKit
set_option linter.unusedVariables false
set_option maxRecDepth 4000

theorem Tryz.infoMs : (Tryz.prog.info? 75).map (fun i => (i.zero, i.size, i.bytes)) = some (some (.agg #[.int .i64 0, .int .i64 0, .int .i64 0, .slice none 0 0]), 4, 48) := by kernel_rfl
theorem Tryz.undMs : Tryz.prog.underlying 65 = some (.slice 75) := by kernel_rfl
/-- Spans in a row of one's own. -/
def Mo (w : World) (B : Nat) (a : Option Addr) (m : List Sg) (gs : List Nat) (cap : Nat) : Prop := gs.length = m.length ∧ w.ownsRow B 75 4 (.slice a m.length cap) m.length (cellsM m gs)
theorem Mo.keep {w w' : World} {B : Nat} {a : Option Addr} {m : List Sg} {gs : List Nat} {cap : Nat} (h : Mo w B a m gs cap) (hb : Below w.heap.size w w') : Mo w' B a m gs cap := ⟨h.1, ownsRow_keepB h.2 hb⟩
theorem Mo.ge {w : World} {B : Nat} {a : Option Addr} {m : List Sg} {gs : List Nat} {cap : Nat} (h : Mo w B a m gs cap) : ∀ g, ob a = some g → B ≤ g := fun g hg => ownsRow_geB h.2 g (by rw [ob_own]; exact hg)
theorem Mo.made (w : World) (B : Nat) (hB : B ≤ w.heap.size) : Mo (w.alloc (.cells #[] 75)) B (some ⟨w.heap.size, 0, none⟩) [] [] 0 := ⟨rfl, World.ownsRow_made w #[] 0 hB (Nat.zero_le _) rfl⟩
theorem appM_run (B : Nat) (w : World) (hB : B ≤ w.heap.size) (a : Option Addr) (L : List Sg) (gL : List Nat) (nL cap : Nat) (h : Mo w B a L gL cap) (hnL : L.length = nL) (b off : Nat) (l : List Sg) (gl : List Nat) (n c : Nat) (hn : l.length = n) (hg : gl.length = l.length) (hq : ∀ j u, (cellsM l gl)[j]? = some u → w.cell? ⟨b, off + j, none⟩ = some u) (hL : L.length ≤ 100000) (hl : l.length ≤ 100000) :
    ∃ a' cap' w', (Builtin.append_ #[65, 65] 65 #[.slice a nL cap, .slice (some ⟨b, off, none⟩) n c]).run Tryz.prog w = .ok (.slice a' (nL + n) cap') w' ∧ Mo w' B a' (L ++ l) (gL ++ gl) cap' ∧ Tu (fun k => ob a = some k) w w' ∧ (ob a' = ob a ∨ ob a' = some w.heap.size) := by
  subst hn
  subst hnL
  obtain ⟨i0, hi, hz0, hz2, hz3⟩ := info_parts Tryz.infoMs
  obtain ⟨v', w', hr, h2, h3, _, h4⟩ := run_append_own_at (P := Tryz.prog) w B 65 65 75 i0 _ 4 48 Tryz.undMs hi hz0 hz2 hz3 rfl (by decide) (.slice a L.length cap) L.length (cellsM L gL) h.2 ⟨b, off, none⟩ l.length c (cellsM l gl) (cellsM_len l gl hg) (fun j u hj => by rw [addr_add]; exact hq j u hj) (cellsM_one l gl) (by unfold maxLen; omega) (by omega) hB
  obtain ⟨a', cap', rfl⟩ : ∃ a' cap', v' = .slice a' (L.length + l.length) cap' := by
    obtain ⟨_, ⟨h4, h5⟩ | ⟨g, c', cur, h4, _⟩⟩ := h2
    · exact ⟨_, _, by rw [h4, h5]⟩
    · exact ⟨_, _, h4⟩
  rw [ob_own] at h3 h4
  rw [ob_own] at h4
  refine ⟨a', cap', w', hr, ⟨by rw [List.length_append, List.length_append, h.1, hg], ?_⟩, Tu.grown h3 (fun g hg => hg), h4⟩
  rw [List.length_append, cellsM_append _ _ _ _ h.1]
  exact h2
theorem appM_none (B : Nat) (w : World) (a : Option Addr) (L : List Sg) (gL : List Nat) (nL cap : Nat) (h : Mo w B a L gL cap) (hnL : L.length = nL) : (Builtin.append_ #[65, 65] 65 #[.slice a nL cap, .slice none 0 0]).run Tryz.prog w = .ok (.slice a nL cap) w := by
  subst hnL
  obtain ⟨i0, hi, _⟩ := info_parts Tryz.infoMs
  exact run_append_owned_none (P := Tryz.prog) (w := w) B 65 65 75 i0 4 Tryz.undMs hi _ _ _ h.2
theorem cellsM_cut (m : List Sg) (gs : List Nat) (h : gs.length = m.length) (k : Nat) : cellsM m gs = cellsM (m.take k) (gs.take k) ++ cellsM (m.drop k) (gs.drop k) := by
  rw [← cellsM_append _ _ _ _ (by simp [h]), List.take_append_drop, List.take_append_drop]
theorem cells_first {w : World} {g cap B : Nat} {m : List Sg} {gs : List Nat} (h : w.ownsRow B 75 4 (.slice (some ⟨g, 0, none⟩) m.length cap) m.length (cellsM m gs)) (hg : gs.length = m.length) (k : Nat) : ∀ j u, (cellsM (m.take k) (gs.take k))[j]? = some u → w.cell? ⟨g, 0 + j, none⟩ = some u := by
  intro j u hj
  have hl := (List.getElem?_eq_some_iff.1 hj).1
  have e := cellsM_cut m gs hg k
  have ht := cellsM_len m gs hg
  have hc := congrArg List.length e
  rw [List.length_append] at hc
  rw [Nat.zero_add, World.ownsRow.cellAt h j (by omega), e, List.getElem?_append_left hl]
  exact hj
theorem cells_rest {w : World} {g cap B : Nat} {m : List Sg} {gs : List Nat} (h : w.ownsRow B 75 4 (.slice (some ⟨g, 0, none⟩) m.length cap) m.length (cellsM m gs)) (hg : gs.length = m.length) (k : Nat) (hk : k ≤ m.length) : ∀ j u, (cellsM (m.drop k) (gs.drop k))[j]? = some u → w.cell? ⟨g, k * 4 + j, none⟩ = some u := by
  intro j u hj
  have hl := (List.getElem?_eq_some_iff.1 hj).1
  have e := cellsM_cut m gs hg k
  have ht := cellsM_len m gs hg
  have hc := congrArg List.length e
  have h1 : (cellsM (m.take k) (gs.take k)).length = k * 4 := by rw [cellsM_len _ _ (by simp [hg]), List.length_take]; congr 1; omega
  rw [List.length_append, h1] at hc
  rw [World.ownsRow.cellAt h (k * 4 + j) (by omega), e, List.getElem?_append_right (by omega), h1, Nat.add_sub_cancel_left]
  exact hj
/-- Each span's states lie in their block. -/
def StAll (w : World) (M : Nat → Nat) (m : List Sg) (gs : List Nat) : Prop := ∀ p ∈ m.zip gs, w.heap[p.2]? = some (.cells (p.1.st.map numV).toArray 3 (0, 0)) ∧ M p.2 = 3 + p.1.pg
theorem Rm.all {w : World} {M : Nat → Nat} {rb : Nat} {a : Option Addr} {cap : Nat} {gs : List Nat} {P W : Nat} {m : List Sg} (h : Rm w M rb a cap gs P W m) : StAll w M m gs := by
  intro p hp
  obtain ⟨i, hi, e⟩ := List.getElem_of_mem hp
  rw [List.length_zip] at hi
  rw [List.getElem_zip] at e
  subst e
  exact h.st i (by omega) (by omega)
theorem StAll.keep {w w' : World} {M M' : Nat → Nat} {m : List Sg} {gs : List Nat} (h : StAll w M m gs) (hM : Ext w M M') (hb : Below w.heap.size w w') : StAll w' M' m gs := fun p hp => by
  obtain ⟨h1, h2⟩ := h p hp
  exact ⟨bblock hb h1, by rw [hM _ (hlt h1)]; exact h2⟩
/-- The row made anew. -/
theorem Rm.made {w w' : World} {M M' : Nat → Nat} {rb : Nat} {a a' : Option Addr} {cap cap' : Nat} {gs gs' : List Nat} {P W : Nat} {m m' : List Sg} (h : Rm w M rb a cap gs P W m) (hM : Ext w M M') (h2 : 2 ≤ w.heap.size) (hb : Below w.heap.size w w') (hrow : Mo w' w.heap.size a' m' gs' cap') (hl : ∀ g, ob a' = some g → M' g = 2) (hst : StAll w' M' m' gs') (n' : Nat) (hn : m'.length = n') :
    Rm (w'.setCell ⟨rb, 2, none⟩ (.slice a' n' cap')) M' rb a' cap' gs' P W m' ∧ Mv M w M' (w'.setCell ⟨rb, 2, none⟩ (.slice a' n' cap')) := by
  subst hn
  have on : Only rb w' (w'.setCell ⟨rb, 2, none⟩ (.slice a' m'.length cap')) := Only.set rb 2 _ w'
  have hrb := hlt h.box
  have hMr : M' rb = 1 := by rw [hM rb hrb]; exact h.lb
  refine ⟨⟨by rw [hM 0 (by omega)]; exact h.m0, by rw [hM 1 (by omega)]; exact h.m1, ?_, hMr, ?_, hl, hrow.1, fun i hi hi' => ?_⟩, ⟨hM, ?_⟩⟩
  · rw [heap_put (bblock hb h.box)]
    simp
  · obtain ⟨h0, h1 | ⟨g, c', cur, h1, hbg, h3, h4⟩⟩ := hrow.2
    · exact ⟨h0, .inl h1⟩
    · exact ⟨h0, .inr ⟨g, c', cur, h1, Nat.zero_le _, by rw [on.block g (by omega)]; exact h3, h4⟩⟩
  · have hp : (m'[i], gs'[i]) ∈ m'.zip gs' := by
      rw [List.mem_iff_getElem]
      exact ⟨i, by rw [List.length_zip]; omega, by rw [List.getElem_zip]⟩
    obtain ⟨k1, k2⟩ := hst _ hp
    refine ⟨?_, k2⟩
    rw [on.block _ (fun e => by have k2 : M' gs'[i] = 3 + m'[i].pg := k2; rw [e, hMr] at k2; omega)]
    exact k1
  · refine (Tu.ofBelow hb).trans (Tu.ofOnly on ?_)
    rw [h.lb]; decide

theorem wpList_runM {ops : Array Oper} {rest : List Oper} {o : Oper} {a : Act} {Q : Exit → Act → World → Prop} {w : World} (hgd : o.guard = none) (hty : o.type = 65) (s x : Operand)
    (ho : o.op = .call { callee := .builtin .append, args := #[s, x], argTypes := #[65, 65] }) (v1 v2 v' : Value) (w' : World) (hs : a.eval s = v1) (hx : a.eval x = v2)
    (hrun : (Builtin.append_ #[65, 65] 65 #[v1, v2]).run Tryz.prog w = .ok v' w') (h : wpList Tryz.prog ops Q rest (a.put o.dst v') w') : wpList Tryz.prog ops Q (o :: rest) a w := by
  refine wpList_plain hgd fun K' hK' => ?_
  unfold Oper.wp
  simp [execOp, ho, hty, resolve, invoke, builtin, hs, hx, hrun, Result.andThen]
  exact hK' _ _ h
set_option maxRecDepth 20000 in
set_option maxHeartbeats 2000000 in
theorem mdrop_any (M : Nat → Nat) (rb P W : Nat) (m : List Sg) (k : Nat) (w : World) (h : Rf w M rb P W m) (h2 : 2 ≤ w.heap.size) (hk : k < m.length) (hm : m.length ≤ 4096) :
    Calls Tryz.prog 71 #[.pointer (some ⟨rb, 0, none⟩), .int .i64 (k : Nat)] w fun e w' => e = .returned (.tuple #[]) ∧ LeftR M w rb P W (m.take k ++ m.drop (k + 1)) w' := by
  obtain ⟨a, cap, gs, hR⟩ := h
  have HR : Hid (Rm w M rb a cap gs P W m) := hR
  have H2 : Hid (2 ≤ w.heap.size) := h2
  have b2 := hR.box2
  have hrow := hR.row
  obtain ⟨g, q, rfl, hg2, hgl, _⟩ := hR.at k hk
  have hgs := hR.glen
  have hcap : m.length ≤ cap ∧ cap ≤ maxLen := by
    obtain ⟨_, ⟨e, _⟩ | ⟨g', c', cur, e, _, _, k1, k2, _⟩⟩ := hrow
    · cases e
    · cases e; exact ⟨k1, k2⟩
  obtain ⟨D, hD⟩ : ∃ D, w.alloc (.cells #[] 75) = D := ⟨_, rfl⟩
  have BD : Below w.heap.size w D := by rw [← hD]; exact (Below.refl _ w).alloc (Nat.le_refl _) _
  have MD : Mo D w.heap.size (some ⟨w.heap.size, 0, none⟩) [] [] 0 := by rw [← hD]; exact Mo.made w _ (Nat.le_refl _)
  have rowD := ownsRow_keepB hrow BD
  have hkl : (m.take k).length = k := by rw [List.length_take]; omega
  obtain ⟨a1, c1, w1, r1, o1, t1, n1⟩ := appM_run w.heap.size D BD.size (some ⟨w.heap.size, 0, none⟩) [] [] 0 0 MD rfl g 0 (m.take k) (gs.take k) k cap hkl (by simp [hgs]) (cells_first rowD hgs k) (by simp) (by omega)
  have ge1 : ∀ g', ob a1 = some g' → w.heap.size ≤ g' := o1.ge
  have B1 : Below w.heap.size w w1 := BD.trans (t1.below (fun i e => by have : w.heap.size = i := Option.some.inj e; omega) BD.size)
  have row1 := ownsRow_keepB hrow B1
  simp only [List.nil_append, Nat.zero_add] at r1 o1
  have hdl : (m.drop (k + 1)).length = m.length - (k + 1) := by rw [List.length_drop]
  obtain ⟨n, hn⟩ : ∃ n, m.length = n := ⟨_, rfl⟩
  have key : ∀ o cz : Nat, (n = k + 1 ∨ o = (k + 1) * 4) → ∃ a2 c2 w2, (Builtin.append_ #[65, 65] 65 #[.slice a1 k c1, .slice (some ⟨g, o, none⟩) (n - (k + 1)) cz]).run Tryz.prog w1 = .ok (.slice a2 (k + (n - (k + 1))) c2) w2 ∧ LeftR M w rb P W (m.take k ++ m.drop (k + 1)) (w2.setCell ⟨rb, 2, none⟩ (.slice a2 (k + (n - (k + 1))) c2)) ∧ Below w.heap.size w w2 := by
    intro o cz ho
    obtain ⟨a2, c2, w2, r2, o2, t2, n2⟩ := appM_run w.heap.size w1 B1.size a1 (m.take k) (gs.take k) k c1 o1 hkl g o (m.drop (k + 1)) (gs.drop (k + 1)) (n - (k + 1)) cz (by rw [hdl, hn]) (by simp [hgs]) (by
      rcases ho with e | e
      · intro j u hj
        have := (List.getElem?_eq_some_iff.1 hj).1
        rw [cellsM_len _ _ (by simp [hgs]), List.length_drop] at this
        omega
      · rw [e]; exact cells_rest row1 hgs (k + 1) (by omega)) (by omega) (by rw [hdl]; omega)
    have B2 : Below w.heap.size w w2 := B1.trans (t2.below (fun i e => ge1 i e) B1.size)
    refine ⟨a2, c2, w2, r2, ?_, B2⟩
    have ge2 := o2.ge
    have := hR.made (M' := lab M w.heap.size 2) (lab_ext w M 2) h2 B2 o2 (fun g' hg' => lab_new (ge2 g' hg')) ((fun p hp => by
      refine (hR.all.keep (lab_ext w M 2) B2) p ?_
      rw [List.zip_append (by simp [hgs])] at hp
      rw [← List.take_append_drop k m, ← List.take_append_drop k gs, List.zip_append (by simp [hgs])]
      rcases List.mem_append.1 hp with e | e
      · exact List.mem_append_left _ e
      · refine List.mem_append_right _ ?_
        have e1 : m.drop k = m[k] :: m.drop (k + 1) := List.drop_eq_getElem_cons hk
        have e2 : gs.drop k = gs[k]'(by omega) :: gs.drop (k + 1) := List.drop_eq_getElem_cons (by omega)
        rw [e1, e2, List.zip_cons_cons]
        exact List.mem_cons_of_mem _ e)) (k + (n - (k + 1))) (by rw [List.length_append, hkl, hdl, hn])
    exact ⟨_, ⟨_, _, _, this.1⟩, this.2⟩
  have KEY : Hid (∀ o cz : Nat, (n = k + 1 ∨ o = (k + 1) * 4) → ∃ a2 c2 w2, (Builtin.append_ #[65, 65] 65 #[.slice a1 k c1, .slice (some ⟨g, o, none⟩) (n - (k + 1)) cz]).run Tryz.prog w1 = .ok (.slice a2 (k + (n - (k + 1))) c2) w2 ∧ LeftR M w rb P W (m.take k ++ m.drop (k + 1)) (w2.setCell ⟨rb, 2, none⟩ (.slice a2 (k + (n - (k + 1))) c2)) ∧ Below w.heap.size w w2) := key
  have R1 : Hid ((Builtin.append_ #[65, 65] 65 #[.slice (some ⟨w.heap.size, 0, none⟩) 0 0, .slice (some ⟨g, 0, none⟩) k cap]).run Tryz.prog D = .ok (.slice a1 k c1) w1) := r1
  have HD : Hid (w.alloc (.cells #[] 75) = D) := hD
  have HB1 : Hid (Below w.heap.size w w1) := B1
  have RBX : Hid (w.heap[rb]? = some (.cells #[.int .i64 (P : Nat), .int .i64 (W : Nat), .slice (some ⟨g, 0, none⟩) n cap] 67 (0, 0))) := by rw [← hn]; exact hR.box
  have d2 : D.cell? ⟨rb, 2, none⟩ = some (.slice (some ⟨g, 0, none⟩) n cap) := by rw [← hn]; exact bcell BD b2
  have x2 : w1.cell? ⟨rb, 2, none⟩ = some (.slice (some ⟨g, 0, none⟩) n cap) := by rw [← hn]; exact bcell B1 b2
  rw [hn] at b2 hk hm hcap
  have w1' : IntKind.i64.wrap ((k : Int) + 1) = (k : Int) + 1 := by rw [IntKind.wrap_i64]; omega
  have k0 : (k : Int) < (n : Int) := by omega
  unfold maxLen at hcap
  have kc : (k : Int) ≤ (cap : Int) := by omega
  clear hR hrow hgs BD MD rowD hkl r1 o1 t1 n1 ge1 B1 row1 hdl hn key hg2 hgl h2
  have kk1 : (k : Int) + 1 ≤ (n : Int) := by omega
  have kk0 : (0 : Int) ≤ (k : Int) + 1 := by omega
  have klc : (n : Int) ≤ (cap : Int) := by omega
  have ktn : ((k : Int) + 1).toNat = k + 1 := by omega
  by_cases hcl : cap = k + 1
  · have hnk : n = k + 1 := by omega
    obtain ⟨a2, c2, w2, r2, l2, bb2⟩ := KEY.out 0 (cap - (k + 1)) (.inl hnk)
    have R2 : Hid ((Builtin.append_ #[65, 65] 65 #[.slice a1 k c1, .slice (some ⟨g, 0, none⟩) (n - (k + 1)) (cap - (k + 1))]).run Tryz.prog w1 = .ok (.slice a2 (k + (n - (k + 1))) c2) w2) := r2
    have L2 : Hid (LeftR M w rb P W (m.take k ++ m.drop (k + 1)) (w2.setCell ⟨rb, 2, none⟩ (.slice a2 (k + (n - (k + 1))) c2))) := l2
    have f2 : w2.frozen? ⟨rb, 2, none⟩ = false := frozen_of_row _ _ _ _ _ (bblock bb2 RBX.out)
    have y2 : w2.cell? ⟨rb, 2, none⟩ = some (.slice (some ⟨g, 0, none⟩) n cap) := bcell bb2 b2
    have hct : (cap = k + 1) = True := eq_true hcl
    have HNK : Hid (n = k + 1) := hnk
    clear hcl hnk r2 l2 bb2
    go_enter Tryz.func71, Tryz.ntmps71
    go_wp2_with (first
      | (at_builtin; refine wpList_runM rfl rfl _ _ rfl (.slice (some ⟨w.heap.size, 0, none⟩) 0 0) (.slice (some ⟨g, 0, none⟩) k cap) _ _ rfl rfl R1.out ?_)
      | (at_builtin; refine wpList_runM rfl rfl _ _ rfl (.slice a1 k c1) (.slice (some ⟨g, 0, none⟩) (n - (k + 1)) (cap - (k + 1))) _ _ rfl rfl R2.out ?_))
    go_end0
    exact ⟨rfl, L2.out⟩
  · obtain ⟨a2, c2, w2, r2, l2, bb2⟩ := KEY.out ((k + 1) * 4) (cap - (k + 1)) (.inr rfl)
    have R2 : Hid ((Builtin.append_ #[65, 65] 65 #[.slice a1 k c1, .slice (some ⟨g, (k + 1) * 4, none⟩) (n - (k + 1)) (cap - (k + 1))]).run Tryz.prog w1 = .ok (.slice a2 (k + (n - (k + 1))) c2) w2) := r2
    have L2 : Hid (LeftR M w rb P W (m.take k ++ m.drop (k + 1)) (w2.setCell ⟨rb, 2, none⟩ (.slice a2 (k + (n - (k + 1))) c2))) := l2
    have f2 : w2.frozen? ⟨rb, 2, none⟩ = false := frozen_of_row _ _ _ _ _ (bblock bb2 RBX.out)
    have y2 : w2.cell? ⟨rb, 2, none⟩ = some (.slice (some ⟨g, 0, none⟩) n cap) := bcell bb2 b2
    have hct : (cap = k + 1) = False := eq_false hcl
    clear hcl r2 l2 bb2
    go_enter Tryz.func71, Tryz.ntmps71
    go_wp2_with (first
      | (at_builtin; refine wpList_runM rfl rfl _ _ rfl (.slice (some ⟨w.heap.size, 0, none⟩) 0 0) (.slice (some ⟨g, 0, none⟩) k cap) _ _ rfl rfl R1.out ?_)
      | (at_builtin; refine wpList_runM rfl rfl _ _ rfl (.slice a1 k c1) (.slice (some ⟨g, (k + 1) * 4, none⟩) (n - (k + 1)) (cap - (k + 1))) _ _ rfl rfl R2.out ?_))
    go_end0
    exact ⟨rfl, L2.out⟩
end Go.Proofs.YtgmljgogmbaioaaGreatDoor

/- The document's cache: its free pages. -/
namespace Go.Proofs.YtgmljgogmbaioaaGreatDoor
open Go.RowKit
set_option linter.unusedVariables false
set_option maxRecDepth 4000

theorem free_len {W P : Nat} : ∀ {m : List Sg} {a : Nat}, (freeM P a m).length ≤ m.length + 1
  | [], a => by rw [freeM]; split <;> simp
  | s :: l, a => by
    have := free_len (W := W) (P := P) (m := l) (a := s.pg + s.k)
    rw [freeM, List.length_append, List.length_cons]
    split <;> simp <;> omega
theorem Lv.below {w w' : World} {B : Nat} {a : Option Addr} {l : List (Nat × Nat)} {c : Nat} (h : Lv w B a l c) (hb : Below w.heap.size w w') : Lv w' B a l c := h.keep hb
set_option maxRecDepth 20000 in
set_option maxHeartbeats 4000000 in
theorem mfree_any (M : Nat → Nat) (rb P W : Nat) (m : List Sg) (w : World) (h : Rf w M rb P W m) (ho : Okc P W m) (h2 : 2 ≤ w.heap.size) :
    Calls Tryz.prog 42 #[.pointer (some ⟨rb, 0, none⟩)] w fun e w' => ∃ a' c', e = .returned (.slice a' (freeM P 0 m).length c') ∧ Lv w' w.heap.size a' (freeM P 0 m) c' ∧ Below w.heap.size w w' := by
  obtain ⟨a, cap, gs, hR⟩ := h
  have HR : Hid (Rm w M rb a cap gs P W m) := hR
  have HO : Hid (Okc P W m) := ho
  have b0 := hR.box0
  have b2 := hR.box2
  have hml := ho.fit.len
  have hP := ho.p1
  obtain ⟨n, hn⟩ : ∃ n, m.length = n := ⟨_, rfl⟩
  have HN : Hid (m.length = n) := hn
  obtain ⟨F, hF⟩ : ∃ F, freeM P 0 m = F := ⟨_, rfl⟩
  have HF : Hid (freeM P 0 m = F) := hF
  have FL' : Hid (F.length ≤ 4097) := by show _ ≤ _; rw [← hF]; have := free_len (W := W) (P := P) (m := m) (a := 0); omega
  rw [hn] at b2 hml
  rw [hF]
  clear hR ho hn h2 hF
  go_enter Tryz.func42, Tryz.ntmps42
  go_wp2_with fail
  go_loopw [3, 4, 5] (fun lv av iv wr => ∃ (k t : Nat) (al : Option Addr) (cl N : Nat) (out : List (Nat × Nat)), k ≤ n + 1 ∧ iv = .int .i64 (k : Nat) ∧ av = .int .i64 (t : Nat) ∧ lv = .slice al N cl ∧ out.length = N ∧ Lv wr w.heap.size al out cl ∧ ((k ≤ n ∧ out ++ freeM P t (m.drop k) = F ∧ t ≤ 4096 ∧ Fit W P t (m.drop k)) ∨ (k = n + 1 ∧ out = F)) ∧ Below w.heap.size w wr) (fun _ _ iv _ => n + 1 - lenW iv)
  case atStart => exact ⟨0, 0, none, 0, 0, [], by omega, rfl, rfl, rfl, rfl, Lv.nil _ _, .inl ⟨Nat.zero_le _, by simpa using HF.out, by omega, by simpa using HO.out.fit⟩, Below.refl _ _⟩
  case round =>
    obtain ⟨k, t, al, cl, N, out, hk, rfl, rfl, rfl, hN, hL, hS, hB⟩ := hrel
    rename World => wr
    have HNN : Hid (out.length = N) := hN
    have HL : Hid (Lv wr w.heap.size al out cl) := hL
    have HB : Hid (Below w.heap.size w wr) := hB
    have r0 := bcell hB b0
    have r2 := bcell hB b2
    rcases hS with ⟨hkn, hS, ht, hft⟩ | ⟨hkn, hS⟩
    · have k0 : (k : Int) ≤ (n : Int) := by omega
      have NB : N ≤ 100000 := by have e := congrArg List.length hS; rw [List.length_append] at e; have := FL'.out; omega
      rcases Nat.lt_or_eq_of_le hkn with hlt' | rfl
      · have hkm : k < m.length := by rw [HN.out]; exact hlt'
        obtain ⟨g, q, rfl, hg2, hgl, hq, n0, n1, n2, n3, cq, hMq⟩ := HR.out.at k hkm
        rw [List.drop_eq_getElem_cons hkm] at hS hft
        have TOP := (HO.out.fit.ok _ (List.getElem_mem hkm)).2.2
        obtain ⟨s, hs⟩ : ∃ s, m[k] = s := ⟨_, rfl⟩
        rw [hs] at n0 n1 n2 n3 hS hft TOP
        obtain ⟨hf1, hf2, hf3⟩ := hft
        rw [freeM] at hS
        have HK : Hid (pgsN (s.cl : Int) (s.bts : Int) = s.k) := rfl
        have fk := hf2.facts.2.2.2.2.2.1
        obtain ⟨p, hp⟩ : ∃ p, s.pg = p := ⟨_, rfl⟩
        obtain ⟨d, hd⟩ : ∃ d, s.cl = d := ⟨_, rfl⟩
        obtain ⟨b, hb⟩ : ∃ b, s.bts = b := ⟨_, rfl⟩
        obtain ⟨K, hK⟩ : ∃ K, s.k = K := ⟨_, rfl⟩
        obtain ⟨L, hL'⟩ : ∃ L, s.st.length = L := ⟨_, rfl⟩
        rw [hp] at n0 hS hf1 hf3 TOP
        rw [hd] at n1 HK
        rw [hb] at n2 HK
        rw [hK] at HK hS hf3 TOP fk
        rw [hL'] at n3
        have CW : Hid (∀ w', Below w.heap.size w w' → w'.cell? ⟨g, k * 4, none⟩ = some (.int .i64 (p : Nat)) ∧ w'.cell? ⟨g, k * 4 + 1, none⟩ = some (.int .i64 (d : Nat)) ∧ w'.cell? ⟨g, k * 4 + 2, none⟩ = some (.int .i64 (b : Nat)) ∧ w'.cell? ⟨g, k * 4 + 3, none⟩ = some (.slice (some ⟨q, 0, none⟩) L L)) := fun w' hb => ⟨bcell hb n0, bcell hb n1, bcell hb n2, bcell hb n3⟩
        obtain ⟨c0, c1, c2, c3⟩ := CW.out wr HB.out
        have HF3 : Hid (Fit W P (p + K) (m.drop (k + 1))) := hf3
        have hpK : p + K ≤ 4096 := by omega
        have k1 : (k : Int) < (n : Int) := by omega
        clear hs hp hd hb hK hL' hf2 hf3 hq cq hMq hg2 hN hL hB hkm hgl n0 n1 n2 n3
        by_cases htp : t < p
        · rw [if_pos htp] at hS
          have HS : Hid ((out ++ [(t, p - t)]) ++ freeM P (p + K) (m.drop (k + 1)) = F) := by show _ = _; rw [List.append_assoc]; exact hS
          have t1 : (t : Int) < (p : Int) := by omega
          have w1 : IntKind.i64.wrap ((p : Int) - (t : Int)) = ((p - t : Nat) : Int) := by rw [IntKind.wrap_i64]; omega
          obtain ⟨D, hD⟩ : ∃ D, wr.alloc (.cells #[.int .i64 (t : Nat), .int .i64 ((p - t : Nat) : Int)] 55) = D := ⟨_, rfl⟩
          have BD : Hid (Below wr.heap.size wr D) := by show Below _ _ _; rw [← hD]; exact (Below.refl _ wr).alloc (Nat.le_refl _) _
          have RD : D.heap[wr.heap.size]? = some (.cells #[.int .i64 (t : Nat), .int .i64 ((p - t : Nat) : Int)] 55 (0, 0)) := by rw [← hD]; exact Go.heap_alloc_new wr _
          have CE : Hid (∀ i (hi : i < [(t, p - t)].length), D.cell? ⟨wr.heap.size, 0 + i * 2, none⟩ = some (.int .i64 ([(t, p - t)][i].1 : Nat)) ∧ D.cell? ⟨wr.heap.size, 0 + i * 2 + 1, none⟩ = some (.int .i64 ([(t, p - t)][i].2 : Nat))) := fun i hi => by
            obtain rfl : i = 0 := by simp at hi; exact hi
            exact ⟨cell_of_row _ _ 0 _ _ _ RD, cell_of_row _ _ 1 _ _ _ RD⟩
          have LD : Hid (Lv D w.heap.size al out cl) := HL.out.keep BD.out
          have SZ : Hid (w.heap.size ≤ D.heap.size) := Nat.le_trans HB.out.size BD.out.size
          clear hS RD htp
          go_wp2_with (first
            | (at_builtin; refine wpList_appR rfl _ _ rfl w.heap.size SZ.out al N cl out rfl HNN.out LD.out wr.heap.size 0 [(t, p - t)] 1 1 rfl rfl CE.out NB (by omega) ?_; intro a4 c4 w4 r1 r2' r3; have L4 : Hid (Lv w4 w.heap.size a4 (out ++ [(t, p - t)]) c4) := r1; have B4 : Hid (Below w.heap.size w w4) := HB.out.trans ((BD.out.mono HB.out.size).trans (r2'.below (fun i e => (LD.out.ge i e).1) SZ.out)); have x0 := bcell B4.out b0; have x2 := bcell B4.out b2; obtain ⟨y0, y1, y2, y3⟩ := CW.out w4 B4.out; clear r1 r2' r3)
            | (have B5 := B4; go_at_call 32; refine (mpages_any p d b q L _ K HK.out).mono ?_; rintro e w5 ⟨rfl, b5⟩; have L5 : Hid (Lv w5 w.heap.size a4 (out ++ [(t, p - t)]) c4) := L4.out.keep b5; have BB5 : Hid (Below w.heap.size w w5) := B4.out.trans (b5.mono B4.out.size); clear b5))
          go_roundw
          case rel => exact ⟨k + 1, p + K, a4, c4, N + 1, out ++ [(t, p - t)], by omega, by congr 1, by congr 1, rfl, by rw [List.length_append, HNN.out]; rfl, L5.out, .inl ⟨by omega, HS.out, by omega, HF3.out⟩, BB5.out⟩
          case measure => simp [lenW]; omega
        · rw [if_neg htp, List.nil_append] at hS
          have HS : Hid (out ++ freeM P (p + K) (m.drop (k + 1)) = F) := hS
          have t1 : ¬ ((t : Int) < (p : Int)) := by omega
          clear hS htp
          go_wp2_with (go_at_call 32; refine (mpages_any p d b q L _ K HK.out).mono ?_; rintro e w5 ⟨rfl, b5⟩; have L5 : Hid (Lv w5 w.heap.size al out cl) := HL.out.keep b5; have BB5 : Hid (Below w.heap.size w w5) := HB.out.trans (b5.mono HB.out.size); clear b5)
          go_roundw
          case rel => exact ⟨k + 1, p + K, al, cl, N, out, by omega, by congr 1, by congr 1, rfl, HNN.out, L5.out, .inl ⟨by omega, HS.out, by omega, HF3.out⟩, BB5.out⟩
          case measure => simp [lenW]; omega
      · have hdr : m.drop k = [] := List.drop_of_length_le (Nat.le_of_eq HN.out)
        rw [hdr, freeM] at hS
        have k1 : ¬ ((k : Int) < (k : Int)) := by omega
        clear hft hdr hN hL hB
        by_cases htp : t < P
        · rw [if_pos htp] at hS
          have HS : Hid (out ++ [(t, P - t)] = F) := hS
          have t1 : (t : Int) < (P : Int) := by omega
          have w1 : IntKind.i64.wrap ((P : Int) - (t : Int)) = ((P - t : Nat) : Int) := by rw [IntKind.wrap_i64]; omega
          obtain ⟨D, hD⟩ : ∃ D, wr.alloc (.cells #[.int .i64 (t : Nat), .int .i64 ((P - t : Nat) : Int)] 55) = D := ⟨_, rfl⟩
          have BD : Hid (Below wr.heap.size wr D) := by show Below _ _ _; rw [← hD]; exact (Below.refl _ wr).alloc (Nat.le_refl _) _
          have RD : D.heap[wr.heap.size]? = some (.cells #[.int .i64 (t : Nat), .int .i64 ((P - t : Nat) : Int)] 55 (0, 0)) := by rw [← hD]; exact Go.heap_alloc_new wr _
          have CE : Hid (∀ i (hi : i < [(t, P - t)].length), D.cell? ⟨wr.heap.size, 0 + i * 2, none⟩ = some (.int .i64 ([(t, P - t)][i].1 : Nat)) ∧ D.cell? ⟨wr.heap.size, 0 + i * 2 + 1, none⟩ = some (.int .i64 ([(t, P - t)][i].2 : Nat))) := fun i hi => by
            obtain rfl : i = 0 := by simp at hi; exact hi
            exact ⟨cell_of_row _ _ 0 _ _ _ RD, cell_of_row _ _ 1 _ _ _ RD⟩
          have LD : Hid (Lv D w.heap.size al out cl) := HL.out.keep BD.out
          have SZ : Hid (w.heap.size ≤ D.heap.size) := Nat.le_trans HB.out.size BD.out.size
          clear hS RD htp
          go_wp2_with (at_builtin; refine wpList_appR rfl _ _ rfl w.heap.size SZ.out al N cl out rfl HNN.out LD.out wr.heap.size 0 [(t, P - t)] 1 1 rfl rfl CE.out NB (by omega) ?_; intro a4 c4 w4 r1 r2' r3; have L4 : Hid (Lv w4 w.heap.size a4 (out ++ [(t, P - t)]) c4) := r1; have B4 : Hid (Below w.heap.size w w4) := HB.out.trans ((BD.out.mono HB.out.size).trans (r2'.below (fun i e => (LD.out.ge i e).1) SZ.out)); have x0 := bcell B4.out b0; have x2 := bcell B4.out b2; clear r1 r2' r3)
          go_roundw
          case rel => exact ⟨k + 1, t, a4, c4, N + 1, out ++ [(t, P - t)], by omega, by congr 1, rfl, rfl, by rw [List.length_append, HNN.out]; rfl, L4.out, .inr ⟨rfl, HS.out⟩, B4.out⟩
          case measure => simp [lenW]
        · rw [if_neg htp, List.append_nil] at hS
          have HS : Hid (out = F) := hS
          have t1 : ¬ ((t : Int) < (P : Int)) := by omega
          clear hS htp
          go_wp2
          go_roundw
          case rel => exact ⟨k + 1, t, al, cl, N, out, by omega, by congr 1, rfl, rfl, HNN.out, HL.out, .inr ⟨rfl, HS.out⟩, HB.out⟩
          case measure => simp [lenW]
    · have k0 : ¬ ((k : Int) ≤ (n : Int)) := by omega
      have FIN : Hid (Lv wr w.heap.size al F cl ∧ N = F.length) := ⟨by rw [← hS]; exact HL.out, by rw [← hS]; exact HNN.out.symm⟩
      clear hS hN hL hB
      go_wp2
      go_ret
      exact ⟨al, cl, by rw [← FIN.out.2]; rfl, FIN.out.1, HB.out⟩
end Go.Proofs.YtgmljgogmbaioaaGreatDoor
