/- Rows of runs; the list of the live slots that the law makes. -/
import Derived.Test.YtbnmbkohmmiamaaDoorLeF
import Derived.Test.YtbnmbkohmmiamaaDoorLcB
import Derived.Test.YtbnmbkohmmiamaaDoorSlVX
import Derived.Test.YtbnmbkohmmiamaaDoorLeA
import Derived.Laws.CopyRow
import Derived.Laws.IdiomCopy
import Derived.Deep.MidRow
import Derived.Deep.WholeRow
namespace Go.Proofs.YtbnmbkohmmiamaaDoor
open Go.RowKit
set_option linter.unusedVariables false

/-- Places and counts as cells. -/
def cellsP : List (Nat × Nat) → List Value
  | [] => []
  | v :: l => .int .i64 (v.1 : Nat) :: .int .i64 (v.2 : Nat) :: cellsP l
theorem cellsP_len : ∀ l, (cellsP l).length = l.length * 2
  | [] => rfl
  | v :: l => by simp [cellsP, cellsP_len l]; omega
theorem cellsP_append : ∀ (a b : List (Nat × Nat)), cellsP (a ++ b) = cellsP a ++ cellsP b
  | [], _ => rfl
  | v :: a, b => by simp [cellsP, cellsP_append a b]
theorem cellsP_one : ∀ (l : List (Nat × Nat)), ∀ v ∈ cellsP l, v.oneCell' = true
  | r :: l, v, hv => by
    simp only [cellsP, List.mem_cons] at hv
    rcases hv with rfl | rfl | hv
    · rfl
    · rfl
    · exact cellsP_one l v hv
theorem cellsP_at : ∀ (l : List (Nat × Nat)) (i : Nat) (h : i < l.length), (cellsP l)[i * 2]? = some (.int .i64 (l[i].1 : Nat)) ∧ (cellsP l)[i * 2 + 1]? = some (.int .i64 (l[i].2 : Nat))
  | r :: l, 0, _ => by simp [cellsP]
  | r :: l, i + 1, h => by
    have := cellsP_at l i (by simpa using h)
    rw [show (i + 1) * 2 = i * 2 + 2 from by omega, show i * 2 + 2 + 1 = i * 2 + 1 + 2 from by omega]
    simpa [cellsP] using this
theorem Tryd.infoRun : (Tryd.prog.info? 42).map (fun i => (i.zero, i.size, i.bytes)) = some (some (.agg #[.int .i64 0, .int .i64 0]), 2, 16) := by kernel_rfl
theorem Tryd.undRuns : Tryd.prog.underlying 38 = some (.slice 42) := by kernel_rfl
/-- Runs in a row of one's own. -/
def Us (w : World) (B : Nat) (a : Option Addr) (l : List (Nat × Nat)) (c : Nat) : Prop := w.ownsRow B 42 2 (.slice a l.length c) l.length (cellsP l)
theorem Us.nil (w : World) (B : Nat) : Us w B none [] 0 := World.ownsRow_nil _ _ _ _
theorem Us.same {w w' : World} {B : Nat} {a : Option Addr} {l : List (Nat × Nat)} {c : Nat} (h : Us w B a l c) (he : ∀ g o, ob a = some g → w.heap[g]? = some o → w'.heap[g]? = some o) : Us w' B a l c := by
  obtain ⟨h0, h1 | ⟨g, c', cur, h1, hg, h2, h3⟩⟩ := h
  · exact ⟨h0, .inl h1⟩
  · exact ⟨h0, .inr ⟨g, c', cur, h1, hg, he g _ (by cases h1; rfl) h2, h3⟩⟩
theorem Us.keep {w w' : World} {B : Nat} {a : Option Addr} {l : List (Nat × Nat)} {c : Nat} (h : Us w B a l c) (hb : Below w.heap.size w w') : Us w' B a l c := h.same (fun g o _ ho => by rw [hb.block g (hlt ho)]; exact ho)
theorem Us.ge {w : World} {B : Nat} {a : Option Addr} {l : List (Nat × Nat)} {c : Nat} (h : Us w B a l c) : ∀ g, ob a = some g → B ≤ g ∧ g < w.heap.size := by
  intro g hg
  obtain ⟨_, ⟨h1, h3⟩ | ⟨g', c', cur, h1, hb, h2, _⟩⟩ := h
  · injection h1 with e1; subst e1; cases hg
  · cases h1; cases hg; exact ⟨hb, hlt h2⟩
/-- Runs that can be read. -/
def RdU (w : World) (a : Option Addr) (l : List (Nat × Nat)) : Prop := ∀ i (h : i < l.length), ∃ g, a = some ⟨g, 0, none⟩ ∧ g < w.heap.size ∧ w.cell? ⟨g, i * 2, none⟩ = some (.int .i64 (l[i].1 : Nat)) ∧ w.cell? ⟨g, i * 2 + 1, none⟩ = some (.int .i64 (l[i].2 : Nat))
theorem RdU.keep {w w' : World} {a : Option Addr} {l : List (Nat × Nat)} (h : RdU w a l) (hb : Below w.heap.size w w') : RdU w' a l := fun i hi => by
  obtain ⟨g, e, hg, h1, h2⟩ := h i hi
  exact ⟨g, e, Nat.lt_of_lt_of_le hg hb.size, bcell hb h1, bcell hb h2⟩
theorem Us.rd {w : World} {B : Nat} {a : Option Addr} {l : List (Nat × Nat)} {c : Nat} (h : Us w B a l c) : RdU w a l := fun i hi => by
  obtain ⟨c1, c2⟩ := cellsP_at l i hi
  have h' := h
  obtain ⟨_, ⟨h1, h2⟩ | ⟨q, c', cur, h1, hg1, h2, _⟩⟩ := h
  · omega
  · cases h1
    refine ⟨q, rfl, hlt h2, ?_, ?_⟩
    · rw [World.ownsRow.cellAt h' (i * 2) (by omega)]; exact c1
    · rw [World.ownsRow.cellAt h' (i * 2 + 1) (by omega)]; exact c2
theorem appU_run (B : Nat) (w : World) (hB : B ≤ w.heap.size) (a : Option Addr) (L : List (Nat × Nat)) (n cap : Nat) (h : Us w B a L cap) (hn : L.length = n) (g : Nat) (v : Nat × Nat) (c : Nat) (hq : w.heap[g]? = some (.cells #[.int .i64 (v.1 : Nat), .int .i64 (v.2 : Nat)] 42 (0, 0))) (hL : L.length ≤ 1000000) :
    ∃ a' cap' w', (Builtin.append_ #[38, 38] 38 #[.slice a n cap, .slice (some ⟨g, 0, none⟩) 1 c]).run Tryd.prog w = .ok (.slice a' (n + 1) cap') w' ∧ Us w' B a' (L ++ [v]) cap' ∧ Tu (fun k => ob a = some k) w w' ∧ (ob a' = ob a ∨ ob a' = some w.heap.size) := by
  subst hn
  obtain ⟨i0, hi, hz0, hz2, hz3⟩ := info_parts Tryd.infoRun
  obtain ⟨v', w', hr, h2, h3, _, h4⟩ := run_append_own_at (P := Tryd.prog) w B 38 38 42 i0 _ 2 16 Tryd.undRuns hi hz0 hz2 hz3 rfl (by decide) (.slice a L.length cap) L.length (cellsP L) h ⟨g, 0, none⟩ 1 c (cellsP [v]) rfl (fun j u hj => by
      rw [addr_add, Nat.zero_add, cell_of_row _ _ _ _ _ _ hq, ← hj]
      simp [cellsP]) (cellsP_one [v]) (by unfold maxLen; omega) (by omega) hB
  obtain ⟨a', cap', rfl⟩ : ∃ a' cap', v' = .slice a' (L.length + 1) cap' := by
    obtain ⟨_, ⟨h4, h5⟩ | ⟨g, c', cur, h4, _⟩⟩ := h2
    · exact ⟨_, _, by rw [h4, h5]⟩
    · exact ⟨_, _, h4⟩
  rw [ob_own] at h3 h4
  rw [ob_own] at h4
  refine ⟨a', cap', w', hr, ?_, Tu.grown h3 (fun g hg => hg), h4⟩
  unfold Us
  rw [List.length_append, cellsP_append]
  exact h2
/-- A row of runs with a label. -/
def Lr (w wr : World) (L : Nat → Nat) (a : Option Addr) (l : List (Nat × Nat)) (c : Nat) : Prop := Us wr w.heap.size a l c ∧ ∀ g, ob a = some g → L g = 3
theorem Lr.nil (w wr : World) (L : Nat → Nat) : Lr w wr L none [] 0 := ⟨Us.nil _ _, fun g hg => by cases hg⟩
theorem Lr.wk {w wr w' : World} {L L' : Nat → Nat} {a : Option Addr} {l : List (Nat × Nat)} {c : Nat} {Z : Nat → Prop} (h : Lr w wr L a l c) (hy : ¬ Z 3) (k : Wk Z L wr L' w') : Lr w w' L' a l c :=
  ⟨h.1.same (fun g o hg ho => k.tu.block g o ho (by rw [h.2 g hg]; exact hy)), fun g hg => by rw [k.ext g (h.1.ge g hg).2]; exact h.2 g hg⟩
theorem lr_app {w wr : World} {L : Nat → Nat} {a : Option Addr} {l : List (Nat × Nat)} {c : Nat} (h : Lr w wr L a l c) (hw : w.heap.size ≤ wr.heap.size) (n : Nat) (hn : l.length = n) (v : Nat × Nat) (hl : n < 1000000) (D : World) (hD : wr.alloc (.cells #[.int .i64 (v.1 : Nat), .int .i64 (v.2 : Nat)] 42) = D) :
    ∃ a' c' w' L', (Builtin.append_ #[38, 38] 38 #[.slice a n c, .slice (some ⟨wr.heap.size, 0, none⟩) 1 1]).run Tryd.prog D = .ok (.slice a' (n + 1) c') w' ∧ Lr w w' L' a' (l ++ [v]) c' ∧ Wk (fun y => y = 3) L wr L' w' := by
  have bD : Below wr.heap.size wr D := by rw [← hD]; exact (Below.refl _ wr).alloc (Nat.le_refl _) _
  have cD : D.heap[wr.heap.size]? = some (.cells #[.int .i64 (v.1 : Nat), .int .i64 (v.2 : Nat)] 42 (0, 0)) := by rw [← hD]; exact Go.heap_alloc_new wr _
  have sD := bD.size
  obtain ⟨a', c', w', hr, o, u, ho⟩ := appU_run w.heap.size D (by omega) a l n c (h.1.keep bD) hn wr.heap.size v 1 cD (by omega)
  refine ⟨a', c', w', setL L D.heap.size a' 3, hr, ⟨o, fun g hg => ?_⟩, ⟨fun k hk => if_pos (by omega), (Tu.ofBelow bD).trans (u.mono (fun k _ hk => h.2 k hk))⟩⟩
  rcases ho with e | e
  · rw [e] at hg
    have := (h.1.ge g hg).2
    show (if g < D.heap.size then L g else if ob a' = some g then 3 else 0) = 3
    rw [if_pos (by omega)]; exact h.2 g hg
  · have hg' := hg
    rw [e] at hg'
    have : D.heap.size = g := Option.some.inj hg'
    show (if g < D.heap.size then L g else if ob a' = some g then 3 else 0) = 3
    rw [if_neg (by omega), if_pos hg]
theorem Bx.same {w w' : World} {sb : Nat} {p c s : Int} {o : Obj} (h : Bx w sb p c s) (h1 : w.heap[sb]? = some o) (h2 : w'.heap[sb]? = some o) : Bx w' sb p c s := by
  have e : ∀ k, w'.cell? ⟨sb, k, none⟩ = w.cell? ⟨sb, k, none⟩ := fun k => by unfold World.cell?; simp only [h1, h2]
  exact ⟨by rw [e]; exact h.b0, by rw [e]; exact h.b1, by rw [e]; exact h.b2⟩
theorem Bx.obj {w : World} {sb : Nat} {p c s : Int} (h : Bx w sb p c s) : ∃ o, w.heap[sb]? = some o := by
  have := World.block_lt_of_cell? w _ h.b0
  exact ⟨w.heap[sb], Array.getElem?_eq_getElem this⟩
theorem oneO_len {P : Nat} {m : List Sn} (h : Std P m) (F : Nat → Nat → Bool) {i : Nat} (hi : i < m.length) : (oneO m F i).length ≤ 16 := by
  unfold oneO
  rw [List.length_map, lsN_len]
  have := cnt_le (F i) (sn m i).sl
  have := (h.ok i hi).facts.2.1
  omega
theorem obK_len {P : Nat} {m : List Sn} (h : Std P m) (F : Nat → Nat → Bool) (c : Nat) : ∀ k, k ≤ m.length → (obK m F c k).length ≤ 16 * k
  | 0, _ => by simp [obK]
  | k + 1, hk => by
    have := obK_len h F c k (by omega)
    have := oneO_len h F (show k < m.length by omega)
    rw [obK, List.length_append]
    split <;> simp <;> omega
theorem obP_len {P : Nat} {m : List Sn} (h : Std P m) (F : Nat → Nat → Bool) : ∀ c, (obP m F c).length ≤ 16 * m.length * c
  | 0 => by simp [obP]
  | c + 1 => by
    have := obP_len h F c
    have := obK_len h F c m.length (Nat.le_refl _)
    rw [obP, List.length_append, Nat.mul_add]
    omega
end Go.Proofs.YtbnmbkohmmiamaaDoor

/- The walk of slots. -/
namespace Go.Proofs.YtbnmbkohmmiamaaDoor
open Go.RowKit
set_option linter.unusedVariables false

theorem take_one {α : Type} {l : List α} {t : Nat} (h : t < l.length) : l.take (t + 1) = l.take t ++ [l[t]] := List.take_succ_eq_append_getElem h
set_option maxRecDepth 20000 in
set_option maxHeartbeats 8000000 in
theorem lslots_any (P : Nat) (m : List Sn) (F : Nat → Nat → Bool) (a : Option Addr) (n cap : Nat) (ts : List Td) (w : World) (hT : Tabs w) (h : RdT w a ts) (hn : ts.length = n) (hS : Std P m) (hI : InF m F) (hR : rowsT m F = ts) (hn3 : n ≤ 300) :
    Calls Tryd.prog 18 #[.slice a n cap] w fun e w' => ∃ a' n' c', e = .returned (.slice a' n' c') ∧ (obP m F 8).length = n' ∧ Us w' w.heap.size a' (obP m F 8) c' ∧ Below w.heap.size w w' := by
  have HT : Hid (Tabs w) := hT
  have H : Hid (RdT w a ts) := h
  have HN : Hid (ts.length = n) := hn
  have HS : Hid (Std P m) := hS
  have HI : Hid (InF m F) := hI
  have HR : Hid (rowsT m F = ts) := hR
  have HML : Hid (m.length = n) := by show _ = _; rw [← hn, ← hR, rowsT_len]
  clear hT h hn hS hI hR
  go_enter Tryd.func18, Tryd.ntmps18
  go_wp2_with fail
  go_loopw [3, 4] (fun ov cv wr => ∃ (c : Nat) (L : Nat → Nat) (oa : Option Addr) (on oc : Nat), c ≤ 8 ∧ cv = .int .i64 (c : Nat) ∧ ov = .slice oa on oc ∧ (obP m F c).length = on ∧ Lr w wr L oa (obP m F c) oc ∧ (∀ k, k < w.heap.size → L k = 0) ∧ Below w.heap.size w wr) (fun _ cv _ => 8 - lenW cv)
  case atStart => exact ⟨0, fun _ => 0, none, 0, 0, Nat.zero_le _, rfl, rfl, rfl, Lr.nil _ _ _, fun _ _ => rfl, Below.refl _ _⟩
  case round =>
    obtain ⟨c, L, oa, on, oc, hc, rfl, rfl, hon, hlr, hlow, hbr⟩ := hrel
    rename World => wr
    have LR : Hid (Lr w wr L oa (obP m F c ++ obK m F c 0) oc) := by show Lr _ _ _ _ _ _; rw [obK, List.append_nil]; exact hlr
    have ON : Hid ((obP m F c ++ obK m F c 0).length = on) := by show _ = _; rw [obK, List.append_nil]; exact hon
    have LR0 : Hid (Lr w wr L oa (obP m F c) oc) := hlr
    have ON0 : Hid ((obP m F c).length = on) := hon
    have LOW : Hid (∀ k, k < w.heap.size → L k = 0) := hlow
    have BR : Hid (Below w.heap.size w wr) := hbr
    clear hon hlr hlow hbr
    by_cases hc8 : c < 8
    · have c0 : (c : Int) ≤ 7 := by omega
      go_wp2_with fail
      go_loopw [3, 19] (fun ov iv wz => ∃ (k : Nat) (L : Nat → Nat) (oa : Option Addr) (on oc : Nat), k ≤ n ∧ iv = .int .i64 (k : Nat) ∧ ov = .slice oa on oc ∧ (obP m F c ++ obK m F c k).length = on ∧ Lr w wz L oa (obP m F c ++ obK m F c k) oc ∧ (∀ j, j < w.heap.size → L j = 0) ∧ Below w.heap.size w wz) (fun _ iv _ => n - lenW iv)
      case atStart => exact ⟨0, L, oa, on, oc, Nat.zero_le _, rfl, rfl, ON.out, LR.out, LOW.out, BR.out⟩
      case round =>
        clear LR ON LR0 ON0 LOW BR
        obtain ⟨k, L, oa, on, oc, hk, rfl, rfl, hon, hlr, hlow, hbr⟩ := hrel
        rename World => wz
        have LR : Hid (Lr w wz L oa (obP m F c ++ obK m F c k) oc) := hlr
        have ON : Hid ((obP m F c ++ obK m F c k).length = on) := hon
        have LOW : Hid (∀ j, j < w.heap.size → L j = 0) := hlow
        have BZ : Hid (Below w.heap.size w wz) := hbr
        clear hon hlr hlow hbr
        by_cases hkn : k < n
        · have hkT : k < ts.length := by rw [HN.out]; exact hkn
          have hkm : k < m.length := by rw [HML.out]; exact hkn
          obtain ⟨g9, off9, la9, lk9, rfl, q0'', q1'', q2'', q3'', qI', qL'⟩ := H.out k hkT
          have q0' := bcell BZ.out q0''
          have q1' := bcell BZ.out q1''
          have q2' := bcell BZ.out q2''
          have q3' := bcell BZ.out q3''
          clear q0'' q1'' q2'' q3''
          have ERI : ts[k] = rowI m k (lsL (F k) (sn m k).sl) := by
            have e1 : ts[k] = (rowsT m F)[k]'(by rw [rowsT_len]; exact hkm) := by congr 1; exact HR.out.symm
            rw [e1, rowsT_at]
          rw [ERI] at q0' q1' q2' q3' qI' qL'
          have RT9 := HS.out.rt k hkm
          have OKL : okL (sn m k).sl (-1) (lsL (F k) (sn m k).sl) = true := ls_ok _ _
          have C7 := (HS.out.ok k hkm).c7
          have FAC := (HS.out.ok k hkm).facts
          have ZI := FAC.2.2.2.2.2.2.2
          have ZB := FAC.2.2.2.1
          have TOP := HS.out.top k hkm
          have MOST := HS.out.most
          have S16 := FAC.2.1
          have q0 : wz.cell? ⟨g9, off9 + k * 4, none⟩ = some (.int .i64 ((sn m k).pg : Int)) := q0'
          have q1 : wz.cell? ⟨g9, off9 + k * 4 + 1, none⟩ = some (.int .i64 ((sn m k).cl : Int)) := q1'
          have q2 : wz.cell? ⟨g9, off9 + k * 4 + 2, none⟩ = some (.int .i64 ((sn m k).bts : Int)) := q2'
          have q3 : wz.cell? ⟨g9, off9 + k * 4 + 3, none⟩ = some (.slice la9 (lsL (F k) (sn m k).sl).length lk9) := q3'
          have qI : Hid (IsI w la9 (lsL (F k) (sn m k).sl)) := qI'
          have qL : Hid ((lsL (F k) (sn m k).sl).length ≤ maxLen) := qL'
          have NK : obK m F c (k + 1) = obK m F c k ++ if (sn m k).cl = c then oneO m F k else [] := rfl
          have ONE : oneO m F k = (lsN (F k) (sn m k).sl).map (fun s => ((sn m k).at s, (sn m k).z)) := rfl
          have ATV : ∀ s, (sn m k).at s = 256 * (sn m k).pg + s * (sn m k).z := fun s => rfl
          have LSN := lsL_N (F k) (sn m k).sl
          have LSM : ∀ x ∈ lsN (F k) (sn m k).sl, x < (sn m k).sl := fun x hx => ((lsN_mem _ _ _).1 hx).1
          have LLN := lsN_len (F k) (sn m k).sl
          have CLE := cnt_le (F k) (sn m k).sl
          clear q0' q1' q2' q3' qI' qL' ERI FAC
          obtain ⟨S, hSS⟩ : ∃ S, (sn m k).sl = S := ⟨_, rfl⟩
          have SE : slN ((sn m k).cl : Int) = S := hSS
          rw [hSS] at q3 qI qL OKL S16 ONE LSN LSM LLN CLE
          obtain ⟨pg, hpg⟩ : ∃ pg, (sn m k).pg = pg := ⟨_, rfl⟩
          obtain ⟨cl, hcl⟩ : ∃ cl, (sn m k).cl = cl := ⟨_, rfl⟩
          obtain ⟨bt, hbt⟩ : ∃ bt, (sn m k).bts = bt := ⟨_, rfl⟩
          obtain ⟨Z, hZ⟩ : ∃ Z, (sn m k).z = Z := ⟨_, rfl⟩
          rw [hpg] at q0 RT9 ATV TOP
          rw [hcl] at q1 RT9 SE ZI C7 NK
          rw [hbt] at q2 RT9 ZI
          rw [hZ] at ZI ZB ONE ATV
          obtain ⟨ls, hls⟩ : ∃ ls, lsN (F k) S = ls := ⟨_, rfl⟩
          rw [hls] at LSN LSM LLN ONE
          obtain ⟨l, hl⟩ : ∃ l, lsL (F k) S = l := ⟨_, rfl⟩
          rw [hl] at q3 qI qL OKL LSN
          have LEN : l.length = ls.length := by rw [LSN, List.length_map]
          obtain ⟨N, hNN⟩ : ∃ N, l.length = N := ⟨_, rfl⟩
          have N16 : N ≤ 16 := by omega
          have HRT : Hid (Rt (pg : Int) (cl : Int) (bt : Int)) := RT9
          have HSE : Hid (slN (cl : Int) = S) := SE
          have HZI : Hid (szI (cl : Int) (bt : Int) = (Z : Int)) := ZI
          have HOK : Hid (okL (slN (cl : Int)) (-1) l = true) := by show _ = _; rw [SE]; exact OKL
          have HNE : Hid (newE (pg : Int) (cl : Int) (bt : Int) = 0) := newE_of RT9
          have HNK : Hid (obK m F c (k + 1) = obK m F c k ++ if cl = c then oneO m F k else []) := NK
          have HON : Hid (oneO m F k = ls.map (fun s => (256 * pg + s * Z, Z))) := by
            show _ = _
            rw [ONE]
            apply List.map_congr_left
            intro s _
            rw [ATV]
          have HLS : Hid (l = ls.map (fun (x : Nat) => (x : Int))) := LSN
          have HLM : Hid (∀ x ∈ ls, x < S) := LSM
          have HLE : Hid (ls.length = N) := by show _ = _; omega
          have HLN : Hid (l.length = N) := hNN
          have PG : pg ≤ 4096 := by omega
          have LBD : Hid (on ≤ 50000) := by
            show on ≤ 50000
            rw [← ON.out, List.length_append]
            have h1 := obP_len HS.out F c
            have h2 := obK_len HS.out F c k (by omega)
            have e := HML.out
            have : 16 * m.length * c ≤ 16 * 300 * 8 := Nat.mul_le_mul (by omega) (by omega)
            omega
          rw [hNN] at q3
          clear RT9 SE ZI OKL NK ONE ATV LSN LSM LLN CLE LEN hNN hSS hpg hcl hbt hZ hls hl TOP MOST
          obtain ⟨E, hE⟩ : ∃ E, wz.alloc (.cells #[.int .i64 (pg : Nat), .int .i64 (cl : Nat), .int .i64 (bt : Nat), .slice la9 N lk9] 46) = E := ⟨_, rfl⟩
          have BE : Hid (Below wz.heap.size wz E) := by show Below _ _ _; rw [← hE]; exact (Below.refl _ wz).alloc (Nat.le_refl _) _
          have RE : E.heap[wz.heap.size]? = some (.cells (dcells (pg : Nat) (cl : Nat) (bt : Nat) la9 N lk9) 46 (0, 0)) := by rw [← hE]; exact Go.heap_alloc_new wz _
          have HEE : Hid (wz.alloc (.cells #[.int .i64 (pg : Nat), .int .i64 (cl : Nat), .int .i64 (bt : Nat), .slice la9 N lk9] 46) = E) := hE
          obtain ⟨eb, heb⟩ : ∃ eb, wz.heap.size = eb := ⟨_, rfl⟩
          have HEB : Hid (wz.heap.size = eb) := heb
          rw [heb] at RE
          have e0 := dcell0 RE
          have e1 := dcell1 RE
          have e2 := dcell2 RE
          have e3 := dcell3 RE
          have TE : Hid (Tabs E) := (HT.out.keep BZ.out).keep BE.out
          have IE : Hid (IsI E la9 l) := (qI.out.keep BZ.out).keep BE.out
          have k0 : (k : Int) < (n : Int) := by omega
          have OFC : Hid (Calls Tryd.prog 20 #[.agg #[.int .i64 (pg : Nat), .int .i64 (cl : Nat), .int .i64 (bt : Nat), .slice la9 N lk9]] E fun e w' => ∃ sb b g, e = .returned (.tuple #[.pointer (some ⟨sb, 0, none⟩), .int .i64 0]) ∧ Spn E w' sb b g (pg : Nat) (cl : Nat) (bt : Nat) (fOf l)) := by
            have q := of_ok (pg : Nat) (cl : Nat) (bt : Nat) la9 lk9 l E TE.out IE.out qL.out HNE.out HOK.out
            rw [HLN.out] at q
            exact q
          clear hE heb RE
          go_upto_region 8 with (fail)
          rw [HEE.out, HEB.out]
          go_wp2_with fail
          refine OFC.out.mono ?_
          rintro e' w5 ⟨sb, b, g2, rfl, sp5⟩
          have BX : Hid (Bx w5 sb (pg : Nat) (cl : Nat) (bt : Nat)) := sp5.at'.box
          have bz5 : Below wz.heap.size wz w5 := BE.out.trans (sp5.low.mono BE.out.size)
          have B5 : Hid (Below w.heap.size w w5) := BZ.out.trans (bz5.mono BZ.out.size)
          have WE : ∀ Zz, Wk Zz L wz (cutL L wz.heap.size) w5 := fun Zz => Wk.fresh bz5
          have LR5 : Hid (Lr w w5 (cutL L wz.heap.size) oa (obP m F c ++ obK m F c k) oc) := LR.out.wk (Z := fun _ => False) (fun h => h) (WE _)
          have LO5 : Hid (∀ j, j < w.heap.size → cutL L wz.heap.size j = 0) := fun j hj => by
            show (if j < wz.heap.size then L j else 0) = 0
            rw [if_pos (by have := BZ.out.size; omega)]; exact LOW.out j hj
          have ZS : Hid (cutL L wz.heap.size sb = 0) := cutL_new (by have := sp5.gs; have := BE.out.size; omega)
          obtain ⟨L5, hL5⟩ : ∃ L5, cutL L wz.heap.size = L5 := ⟨_, rfl⟩
          rw [hL5] at LR5 LO5 ZS
          have f1 := bcell sp5.low e1
          have f3 := bcell sp5.low e3
          clear sp5 e0 e1 e2 e3 q0 q1 q2 q3 bz5 WE hL5
          by_cases hcc : cl = c
          · subst hcc
            have HK2 : Hid (obK m F cl (k + 1) = obK m F cl k ++ oneO m F k) := by show _ = _; rw [HNK.out, if_pos rfl]
            clear HNK
            obtain ⟨O, hO⟩ := BX.out.obj
            have HO : Hid (w5.heap[sb]? = some O) := hO
            have I0 : Hid (Lr w w5 L5 oa (obP m F cl ++ obK m F cl k ++ (oneO m F k).take 0) oc) := by show Lr _ _ _ _ _ _; rw [List.take_zero, List.append_nil]; exact LR5.out
            have ZP : Hid ((ls.map (fun s => (256 * pg + s * Z, Z))).length = N) := by show _ = _; rw [List.length_map]; exact HLE.out
            clear hO
            go_wp2_with fail
            go_loopw [3, 39] (fun ov tv wy => ∃ (t : Nat) (L : Nat → Nat) (oa : Option Addr) (ny oc : Nat), t ≤ N ∧ tv = .int .i64 (t : Nat) ∧ ov = .slice oa ny oc ∧ on + t = ny ∧ Lr w wy L oa (obP m F cl ++ obK m F cl k ++ (oneO m F k).take t) oc ∧ (∀ j, j < w.heap.size → L j = 0) ∧ Below w.heap.size w wy ∧ wy.heap[sb]? = some O ∧ L sb = 0) (fun _ tv _ => N - lenW tv)
            case atStart => exact ⟨0, L5, oa, on, oc, Nat.zero_le _, rfl, rfl, rfl, I0.out, LO5.out, B5.out, HO.out, ZS.out⟩
            case round =>
              clear I0 f1 f3
              obtain ⟨t, L6, oa6, ny, oc6, ht, rfl, rfl, hny, hlr6, hlow6, hb6, ho6, hz6⟩ := hrel
              rename World => wy
              have LR6 : Hid (Lr w wy L6 oa6 (obP m F cl ++ obK m F cl k ++ (oneO m F k).take t) oc6) := hlr6
              have LO6 : Hid (∀ j, j < w.heap.size → L6 j = 0) := hlow6
              have B6 : Hid (Below w.heap.size w wy) := hb6
              have O6 : Hid (wy.heap[sb]? = some O) := ho6
              have Z6 : Hid (L6 sb = 0) := hz6
              have ONv := ON.out
              have LB := LBD.out
              have L16 : Hid ((obP m F cl ++ obK m F cl k ++ (oneO m F k).take t).length = ny) := by
                show _ = _
                rw [List.length_append, ON.out, List.length_take, HON.out, ZP.out]
                omega
              clear hlr6 hlow6 hb6 ho6 hz6 ONv
              by_cases htN : t < N
              · have htl : t < ls.length := by rw [HLE.out]; exact htN
                obtain ⟨s, hs⟩ : ∃ s, ls[t] = s := ⟨_, rfl⟩
                have sS : s < S := HLM.out s (by rw [← hs]; exact List.getElem_mem htl)
                have VL : l.getD t 0 = (s : Int) := by
                  rw [HLS.out, List.getD_eq_getElem?_getD, List.getElem?_map, List.getElem?_eq_getElem htl, hs]; rfl
                have TB : Hid (TabC wy) := (HT.out.keep B6.out).1
                have BX6 : Hid (Bx wy sb (pg : Nat) (cl : Nat) (bt : Nat)) := BX.out.same HO.out O6.out
                obtain ⟨A, hA⟩ : ∃ A, 256 * pg + s * Z = A := ⟨_, rfl⟩
                have SZ : s * Z ≤ 16 * 4096 := Nat.mul_le_mul (by omega) ZB
                have AB : A ≤ 2000000 := by omega
                have ATC : Hid (Calls Tryd.prog 36 #[.pointer (some ⟨sb, 0, none⟩), .int .i64 (s : Nat)] wy fun e w' => e = .returned (.tuple #[.int .i64 (A : Nat), .bool true]) ∧ wy = w') := by
                  have q := at_in sb (pg : Nat) (cl : Nat) (bt : Nat) s wy BX6.out TB.out HRT.out (by rw [HSE.out]; exact sS)
                  have e : 256 * ((pg : Nat) : Int) + (s : Int) * (Z : Int) = ((A : Nat) : Int) := by rw [← hA, Int.natCast_add, Int.natCast_mul, Int.natCast_mul]; rfl
                  rw [HZI.out, e] at q
                  exact q
                have SZC : Hid (Calls Tryd.prog 37 #[.pointer (some ⟨sb, 0, none⟩)] wy fun e w' => e = .returned (.int .i64 (Z : Nat)) ∧ wy = w') := by
                  have q := size_any sb (pg : Nat) (cl : Nat) (bt : Nat) wy BX6.out TB.out HRT.out.c0 HRT.out.c7
                  rw [HZI.out] at q
                  exact q
                have ET : Hid ((oneO m F k).take (t + 1) = (oneO m F k).take t ++ [(A, Z)]) := by
                  show _ = _
                  rw [HON.out, take_one (by rw [ZP.out]; exact htN), List.getElem_map, hs, hA]
                obtain ⟨D, hD⟩ : ∃ D, wy.alloc (.cells #[.int .i64 (A : Nat), .int .i64 (Z : Nat)] 42) = D := ⟨_, rfl⟩
                obtain ⟨a7, c7, w7, L7, run7, lr7, wk7⟩ := lr_app LR6.out B6.out.size ny L16.out (A, Z) (by omega) D hD
                obtain ⟨b7, l7⟩ := wk7.bel (by omega) LO6.out B6.out
                obtain ⟨o7, z7⟩ := wk7.box (by omega) O6.out Z6.out
                have LR7 : Hid (Lr w w7 L7 a7 (obP m F cl ++ obK m F cl k ++ (oneO m F k).take (t + 1)) c7) := by
                  show Lr _ _ _ _ _ _
                  rw [ET.out, ← List.append_assoc]
                  exact lr7
                have HD : Hid (wy.alloc (.cells #[.int .i64 (A : Nat), .int .i64 (Z : Nat)] 42) = D) := hD
                have RUN7 : Hid ((Builtin.append_ #[38, 38] 38 #[.slice oa6 ny oc6, .slice (some ⟨wy.heap.size, 0, none⟩) 1 1]).run Tryd.prog D = .ok (.slice a7 (ny + 1) c7) w7) := run7
                have L7L : Hid (∀ j, j < w.heap.size → L7 j = 0) := l7
                have B7 : Hid (Below w.heap.size w w7) := b7
                have O7 : Hid (w7.heap[sb]? = some O) := o7
                have Z7 : Hid (L7 sb = 0) := z7
                have t0 : (t : Int) < (N : Int) := by omega
                obtain ⟨_, hnil | ⟨lb, loff, hla, hlb, hlc⟩⟩ := qI.out
                · exfalso
                  have := HLN.out
                  rw [hnil] at this
                  simp at this
                  omega
                · have hcell := hlc t (by rw [HLN.out]; exact htN)
                  rw [VL] at hcell
                  have hcell2 : wy.cell? ⟨lb, loff + t, none⟩ = some (.int .i64 (s : Nat)) := bcell B6.out hcell
                  subst hla
                  clear hcell hlc VL hA SZ hs run7 lr7 wk7 b7 l7 o7 z7 hD hlb
                  go_wp2_with (first
                    | (go_at_call 36; refine ATC.out.mono ?_; rintro e w' ⟨rfl, rfl⟩)
                    | (go_at_call 37; refine SZC.out.mono ?_; rintro e w' ⟨rfl, rfl⟩)
                    | (at_builtin; refine wpList_run rfl 38 rfl _ _ rfl (.slice oa6 ny oc6) (.slice (some ⟨wy.heap.size, 0, none⟩) 1 1) _ _ rfl rfl (by rw [HD.out]; exact RUN7.out) ?_))
                  go_roundw
                  case rel => exact ⟨t + 1, L7, a7, ny + 1, c7, by omega, by congr 1, rfl, by omega, LR7.out, L7L.out, B7.out, O7.out, Z7.out⟩
                  case measure => simp [lenW]; omega
              · obtain rfl : t = N := by omega
                have EK : Hid (obP m F cl ++ obK m F cl k ++ (oneO m F k).take t = obP m F cl ++ obK m F cl (k + 1)) := by
                  show _ = _
                  rw [HK2.out, List.append_assoc, List.take_of_length_le (by rw [HON.out, ZP.out]; exact Nat.le_refl _)]
                have LRN : Hid (Lr w wy L6 oa6 (obP m F cl ++ obK m F cl (k + 1)) oc6) := by show Lr _ _ _ _ _ _; rw [← EK.out]; exact LR6.out
                have ONN : Hid ((obP m F cl ++ obK m F cl (k + 1)).length = ny) := by show _ = _; rw [← EK.out]; exact L16.out
                go_wp2
                go_roundw
                case rel => exact ⟨k + 1, L6, oa6, ny, oc6, by omega, by congr 1, rfl, ONN.out, LRN.out, LO6.out, B6.out⟩
                case measure => simp [lenW]; omega
          · have EK : Hid (obK m F c (k + 1) = obK m F c k) := by show _ = _; rw [HNK.out, if_neg hcc, List.append_nil]
            have LRN : Hid (Lr w w5 L5 oa (obP m F c ++ obK m F c (k + 1)) oc) := by show Lr _ _ _ _ _ _; rw [EK.out]; exact LR5.out
            have ONN : Hid ((obP m F c ++ obK m F c (k + 1)).length = on) := by show _ = _; rw [EK.out]; exact ON.out
            have d1 : ((cl : Int) == (c : Int)) = false := by rw [beq_eq_false_iff_ne]; omega
            have d2 : ((cl : Int) != (c : Int)) = true := by rw [bne, d1]; rfl
            have d3 : ¬ ((cl : Int) = (c : Int)) := by omega
            go_wp2
            go_roundw
            case rel => exact ⟨k + 1, L5, oa, on, oc, by omega, by congr 1, rfl, ONN.out, LRN.out, LO5.out, B5.out⟩
            case measure => simp [lenW]; omega
        · obtain rfl : k = n := by omega
          have EP : Hid (obP m F (c + 1) = obP m F c ++ obK m F c k) := by show _ = _; rw [obP, HML.out]
          have LRN : Hid (Lr w wz L oa (obP m F (c + 1)) oc) := by show Lr _ _ _ _ _ _; rw [EP.out]; exact LR.out
          have ONN : Hid ((obP m F (c + 1)).length = on) := by show _ = _; rw [EP.out]; exact ON.out
          go_wp2
          go_roundw
          case rel => exact ⟨c + 1, L, oa, on, oc, by omega, by congr 1, rfl, ONN.out, LRN.out, LOW.out, BZ.out⟩
          case measure => simp [lenW]; omega
    · obtain rfl : c = 8 := by omega
      go_wp2
      go_ret
      exact ⟨_, _, _, rfl, ON0.out, LR0.out.1, BR.out⟩
end Go.Proofs.YtbnmbkohmmiamaaDoor

/- Rows of pairs that fill their block: made, written, copied. -/
namespace Go.Proofs.YtbnmbkohmmiamaaDoor
open Go.RowKit
set_option linter.unusedVariables false

/-! ### copy -/
theorem run_copy2 {P : Program} (w : World) (dT sT ty elem : TypeId) (g o dLen dCap : Nat) (a : Addr) (sLen sCap : Nat) (cur : Array Value) (t : TypeId) (cs : List Value)
    (hu : P.underlying dT = some (.slice elem)) (hs : (P.info? elem).map (·.size) = some 2)
    (hg : w.heap[g]? = some (.cells cur t (0, 0))) (hn : cs.length = Nat.min sLen dLen * 2)
    (hsrc : ∀ j v, cs[j]? = some v → w.cell? (a.add j) = some v) (hfit : o + cs.length ≤ cur.size) (h1 : ∀ v ∈ cs, v.oneCell' = true) :
    (Builtin.copy_ #[dT, sT] ty #[.slice (some ⟨g, o, none⟩) dLen dCap, .slice (some a) sLen sCap]).run P w =
      .ok (goInt (Nat.min sLen dLen)) (w.setRow g (cur.toList.take o ++ cs ++ cur.toList.drop (o + cs.length)).toArray) := by
  have hl := run_loadCells_list (P := P) w a cs hsrc
  have hst := run_storeCells_at P g o t cs 0 cur w hg (by simpa using hfit) h1
  cases hq : P.info? elem with
  | none => simp [hq] at hs
  | some i =>
    have hi : i.size = 2 := by simpa [hq] using hs
    rw [hn] at hl
    simp [Builtin.copy_, run_underlying hu, Builtin.lenOf, Builtin.firstCells, sizeOf, typeInfo, hq, hi, hl, hst]

theorem Tryd.infoPr : (Tryd.prog.info? 43).map (fun i => (i.zero, i.size, i.bytes)) = some (some (.agg #[.int .i64 0, .int .i64 0]), 2, 16) := by kernel_rfl
theorem Tryd.undPrs : Tryd.prog.underlying 40 = some (.slice 43) := by kernel_rfl
theorem Tryd.sizePr : (Tryd.prog.info? 43).map (·.size) = some 2 := by kernel_rfl
/-- Pairs that fill a block. -/
def Bw (w : World) (g : Nat) (l : List (Nat × Nat)) : Prop := w.heap[g]? = some (.cells (cellsP l).toArray 43 (0, 0))
theorem Bw.keep {w w' : World} {g : Nat} {l : List (Nat × Nat)} (h : Bw w g l) (hb : Below w.heap.size w w') : Bw w' g l := by
  unfold Bw
  rw [hb.block g (hlt h)]
  exact h
theorem Bw.cell {w : World} {g : Nat} {l : List (Nat × Nat)} (h : Bw w g l) (p : Nat) (hp : p < l.length) : w.cell? ⟨g, p * 2, none⟩ = some (.int .i64 (l[p].1 : Nat)) ∧ w.cell? ⟨g, p * 2 + 1, none⟩ = some (.int .i64 (l[p].2 : Nat)) := by
  obtain ⟨h1, h2⟩ := cellsP_at l p hp
  exact ⟨by rw [cell_of_row _ _ _ _ _ _ h, List.getElem?_toArray]; exact h1, by rw [cell_of_row _ _ _ _ _ _ h, List.getElem?_toArray]; exact h2⟩
theorem Bw.thawed {w : World} {g : Nat} {l : List (Nat × Nat)} (h : Bw w g l) (k : Nat) : w.frozen? ⟨g, k, none⟩ = false := frozen_of_row w g k _ _ h
theorem cellsP_set : ∀ (l : List (Nat × Nat)) (p : Nat) (x y : Nat), p < l.length → ((cellsP l).set (p * 2) (.int .i64 (x : Nat))).set (p * 2 + 1) (.int .i64 (y : Nat)) = cellsP (l.set p (x, y))
  | v :: l, 0, x, y, _ => by simp [cellsP]
  | v :: l, p + 1, x, y, h => by
    have ih := cellsP_set l p x y (by simpa using h)
    rw [show (p + 1) * 2 = p * 2 + 1 + 1 by omega, show p * 2 + 1 + 1 + 1 = (p * 2 + 1) + 1 + 1 by omega]
    simp only [cellsP, List.set_cons_succ]
    rw [ih]
theorem Bw.stored {w : World} {g : Nat} {l : List (Nat × Nat)} (h : Bw w g l) (p : Nat) (hp : p < l.length) (x y : Nat) : Bw ((w.setCell ⟨g, p * 2, none⟩ (.int .i64 (x : Nat))).setCell ⟨g, p * 2 + 1, none⟩ (.int .i64 (y : Nat))) g (l.set p (x, y)) := by
  unfold Bw
  have h1 : (w.setCell ⟨g, p * 2, none⟩ (.int .i64 (x : Nat))).heap[g]? = _ := heap_put h
  rw [heap_put h1]
  have e : (((cellsP l).toArray.setIfInBounds (p * 2) (.int .i64 (x : Nat))).setIfInBounds (p * 2 + 1) (.int .i64 (y : Nat))) = (cellsP (l.set p (x, y))).toArray := by
    rw [← cellsP_set l p x y hp]
    simp
  rw [e]
theorem made_P (n : Nat) : madeCells #[.int .i64 0, .int .i64 0] (n * 2) = (cellsP (List.replicate n (0, 0))).toArray := by
  apply Array.ext'
  simp only [madeCells]
  apply List.ext_getElem
  · simp [cellsP_len]
  · intro j h1 h2
    simp only [cellsP_len, List.length_replicate] at h2
    have hi : j / 2 < (List.replicate n ((0, 0) : Nat × Nat)).length := by simp; omega
    obtain ⟨e0, e1⟩ := cellsP_at (List.replicate n (0, 0)) (j / 2) hi
    simp only [List.getElem_replicate] at e0 e1
    have hlt : j < (cellsP (List.replicate n (0, 0))).length := by simp [cellsP_len]; omega
    rcases Nat.mod_two_eq_zero_or_one j with hj | hj
    · rw [show j / 2 * 2 = j from by omega, List.getElem?_eq_getElem hlt] at e0
      have := Option.some.inj e0
      simp [hj]
      exact this.symm
    · rw [show j / 2 * 2 + 1 = j from by omega, List.getElem?_eq_getElem hlt] at e1
      have := Option.some.inj e1
      simp [hj]
      exact this.symm
theorem make_P (w : World) (n : Nat) (hn : n ≤ 1000000) : (Instr.makeSlice 40 (.int .i64 (n : Nat)) (.int .i64 (n : Nat))).run Tryd.prog w = .ok (.slice (some ⟨w.heap.size, 0, none⟩) n n) (w.alloc (.cells (cellsP (List.replicate n (0, 0))).toArray 43)) := by
  obtain ⟨i0, hi0, hz0, hs0, hb0⟩ := info_parts Tryd.infoPr
  have h := run_make (P := Tryd.prog) w 40 43 i0 _ Tryd.undPrs hi0 hz0 .i64 .i64 (n : Int) (n : Int) (by omega) (Int.le_refl _) (by rw [hb0]; omega) (by omega)
  rw [h, hs0]
  simp only [Int.toNat_natCast, Value.cells, made_P]
/-- The bytes behind a move, as a list. -/
def mvL (fr tt ln : Nat) (l : List (Nat × Nat)) : List (Nat × Nat) := l.take tt ++ (l.drop fr).take ln ++ l.drop (tt + ln)
theorem mvL_len {fr tt ln : Nat} {l : List (Nat × Nat)} (h1 : fr + ln ≤ l.length) (h2 : tt + ln ≤ l.length) : (mvL fr tt ln l).length = l.length := by
  unfold mvL
  simp only [List.length_append, List.length_take, List.length_drop]
  omega
theorem mvL_get {fr tt ln : Nat} {l : List (Nat × Nat)} (h1 : fr + ln ≤ l.length) (h2 : tt + ln ≤ l.length) (p : Nat) (hp : p < l.length) : (mvL fr tt ln l).getD p (0, 0) = mvB ⟨(fr : Nat), (tt : Nat), (ln : Nat)⟩ (fun p => l.getD p (0, 0)) p := by
  unfold mvL mvB
  simp only [List.getD_eq_getElem?_getD]
  by_cases q1 : p < tt
  · rw [if_neg (by omega), List.append_assoc, List.getElem?_append_left (by simp; omega), List.getElem?_take, if_pos q1]
  · by_cases q2 : p < tt + ln
    · rw [if_pos (by omega), List.append_assoc, List.getElem?_append_right (by simp; omega), List.getElem?_append_left (by simp; omega), List.getElem?_take, if_pos (by simp; omega), List.getElem?_drop]
      congr 2
      simp
      omega
    · rw [if_neg (by omega), List.getElem?_append_right (by simp; omega), List.getElem?_drop]
      congr 2
      simp
      omega
theorem cellsP_take : ∀ (l : List (Nat × Nat)) (k : Nat), (cellsP l).take (k * 2) = cellsP (l.take k)
  | [], k => by simp [cellsP]
  | v :: l, 0 => by simp [cellsP]
  | v :: l, k + 1 => by rw [show (k + 1) * 2 = k * 2 + 1 + 1 by omega]; simp [cellsP, cellsP_take l k]
theorem cellsP_drop : ∀ (l : List (Nat × Nat)) (k : Nat), (cellsP l).drop (k * 2) = cellsP (l.drop k)
  | [], k => by simp [cellsP]
  | v :: l, 0 => by simp [cellsP]
  | v :: l, k + 1 => by rw [show (k + 1) * 2 = k * 2 + 1 + 1 by omega]; simp [cellsP, cellsP_drop l k]
/-- A part taken out into a new row, and laid over another part. -/
theorem move_run (w : World) (g q N fr tt ln cd cs : Nat) (l : List (Nat × Nat)) (h : Bw w g l) (hN : l.length = N) (hq : w.heap[q]? = some (.cells #[] 43 (0, 0))) (hqg : q ≠ g) (h1 : fr + ln ≤ N) (h2 : tt + ln ≤ N) (h3 : 1 ≤ ln) (hN2 : N ≤ 1000000) :
    ∃ a1 c1 w1 w2, (Builtin.append_ #[40, 40] 40 #[.slice (some ⟨q, 0, none⟩) 0 0, .slice (some ⟨g, fr * 2, none⟩) ln cs]).run Tryd.prog w = .ok (.slice (some a1) ln c1) w1 ∧ (∀ ty, (Builtin.copy_ #[40, 40] ty #[.slice (some ⟨g, tt * 2, none⟩) ln cd, .slice (some a1) ln c1]).run Tryd.prog w1 = .ok (.int .i64 (ln : Nat)) w2) ∧ Bw w2 g (mvL fr tt ln l) ∧ Tu (fun k => k = q ∨ k = g) w w2 ∧ Tu (fun k => k = q) w w1 := by
  subst hN
  obtain ⟨i0, hi, hz0, hz2, hz3⟩ := info_parts Tryd.infoPr
  have own : w.ownsRow 0 43 2 (.slice (some ⟨q, 0, none⟩) 0 0) 0 [] := ⟨rfl, .inr ⟨q, 0, #[], rfl, Nat.zero_le _, hq, Nat.le_refl _, Nat.zero_le _, rfl, rfl⟩⟩
  have src : ∀ j u, (cellsP ((l.drop fr).take ln))[j]? = some u → w.cell? ((⟨g, fr * 2, none⟩ : Addr).add j) = some u := fun j u hj => by
    rw [addr_add, cell_of_row _ _ _ _ _ _ h, List.getElem?_toArray]
    have hjl := (List.getElem?_eq_some_iff.1 hj).1
    rw [cellsP_len, List.length_take, List.length_drop] at hjl
    rw [← cellsP_take, ← cellsP_drop, List.getElem?_take, if_pos (by omega), List.getElem?_drop] at hj
    exact hj
  have sl : (cellsP ((l.drop fr).take ln)).length = ln * 2 := by rw [cellsP_len, List.length_take, List.length_drop, show min ln (l.length - fr) = ln by omega]
  obtain ⟨v', w1, hr, k2, k3, _, k4⟩ := run_append_own_at (P := Tryd.prog) w 0 40 40 43 i0 _ 2 16 Tryd.undPrs hi hz0 hz2 hz3 rfl (by decide) (.slice (some ⟨q, 0, none⟩) 0 0) 0 [] own ⟨g, fr * 2, none⟩ ln cs (cellsP ((l.drop fr).take ln)) sl src (cellsP_one _) (by unfold maxLen; omega) (by omega) (Nat.zero_le _)
  rw [Nat.zero_add, List.nil_append] at k2
  have u1 : Tu (fun k => k = q) w w1 := Tu.grown k3 (fun g hg => (Option.some.inj hg).symm)
  have hg1 : w1.heap[g]? = some (.cells (cellsP l).toArray 43 (0, 0)) := u1.block g _ h (fun e => hqg e.symm)
  have k2' := k2
  obtain ⟨_, ⟨e1, e2⟩ | ⟨g1, c1, cur, e1, hb, e3, _⟩⟩ := k2
  · omega
  · subst e1
    have hc := run_copy2 (P := Tryd.prog) w1 40 40
    have cells1 : ∀ j v, (cellsP ((l.drop fr).take ln))[j]? = some v → w1.cell? ((⟨g1, 0, none⟩ : Addr).add j) = some v := fun j v hj => by
      have hjl := (List.getElem?_eq_some_iff.1 hj).1
      rw [addr_add, Nat.zero_add, World.ownsRow.cellAt k2' j (by omega)]
      exact hj
    refine ⟨⟨g1, 0, none⟩, c1, w1, w1.setRow g ((cellsP l).take (tt * 2) ++ cellsP ((l.drop fr).take ln) ++ (cellsP l).drop (tt * 2 + ln * 2)).toArray, hr, fun ty => ?_, ?_, ?_, u1⟩
    rotate_left 1
    · unfold Bw
      rw [setRow_heap w1 g _ _ 43 _ hg1]
      unfold mvL
      rw [cellsP_append, cellsP_append, ← cellsP_take l tt, ← cellsP_drop l (tt + ln), Nat.add_mul]
    · refine (u1.mono (fun k _ hk => .inl hk)).trans ?_
      exact ⟨rfl, rfl, rfl, by simp, fun k o ho hk => by rw [setRow_other w1 g k _ (fun e => hk (.inr e))]; exact ho⟩
    · have q := hc ty 43 g (tt * 2) ln cd ⟨g1, 0, none⟩ ln c1 (cellsP l).toArray 43 (cellsP ((l.drop fr).take ln)) Tryd.undPrs Tryd.sizePr hg1 (by rw [sl, show Nat.min ln ln = ln from Nat.min_self ln]) cells1 (by rw [sl]; simp [cellsP_len]; omega) (cellsP_one _)
      rw [q, sl, show Nat.min ln ln = ln from Nat.min_self ln]
      rfl
end Go.Proofs.YtbnmbkohmmiamaaDoor
