/- Plain mathematics of layer 17: the bytes of a view's live slots. -/
import Derived.Test.YtbfamjnnlcopiaaGreatDoorGzAR
import Derived.Test.YtbfamjnnlcopiaaGreatDoorGzAY
import Derived.Test.YtbfamjnnlcopiaaGreatDoorGzAQ
import Derived.Test.YtbfamjnnlcopiaaGreatDoorGzAP
import Derived.Test.YtbfamjnnlcopiaaGreatDoorMhA
import Derived.BigQuiet
import Derived.Deep.RegionHeld3
namespace Go.Proofs.YtbfamjnnlcopiaaGreatDoor
open Go.RowKit
set_option linter.unusedVariables false
set_option maxRecDepth 4000

/-- Does a byte lie in the n-th live slot of a span? -/
def inSl (V : Vw) (j n i : Nat) : Bool := decide (plV V j n ≤ (i : Int) ∧ (i : Int) < plV V j n + szT V j)
/-- In one of the first n. -/
def lvS (V : Vw) (j : Nat) : Nat → Nat → Bool
  | 0, _ => false
  | n + 1, i => lvS V j n i || inSl V j n i
/-- In a live slot of one of the first k spans. -/
def lvT (V : Vw) : Nat → Nat → Bool
  | 0, _ => false
  | k + 1, i => lvT V k i || lvS V k (lvN V k) i
/-- In one of the first k spans, or one of the first n slots of the next one. -/
def lvU (V : Vw) (k n : Nat) : Nat → Bool := fun i => lvT V k i || lvS V k n i
theorem lvU_zero (V : Vw) (k : Nat) : lvU V k 0 = lvT V k := by funext i; simp [lvU, lvS]
theorem lvU_end (V : Vw) (k : Nat) : lvU V k (lvN V k) = lvT V (k + 1) := by funext i; simp [lvU, lvT]
theorem lvU_more (V : Vw) (k n : Nat) : lvU V k (n + 1) = fun i => lvU V k n i || inSl V k n i := by funext i; simp [lvU, lvS, Bool.or_assoc]
/-- The bytes that f tells, noughts elsewhere. -/
def mskL (f : Nat → Bool) (b : List Int) : List Int := (List.range b.length).map (fun i => if f i = true then b.getD i 0 else 0)
theorem msk_len (f : Nat → Bool) (b : List Int) : (mskL f b).length = b.length := by simp [mskL]
theorem msk_none (b : List Int) : mskL (fun _ => false) b = List.replicate b.length 0 := by
  apply List.ext_getElem
  · simp [mskL]
  · intro i h1 h2
    simp [mskL]
theorem msk_over (f : Nat → Bool) (b s : List Int) (o : Nat) (ho : o + s.length ≤ b.length) (hs : s = (b.drop o).take s.length) : overR (mskL f b) o s = mskL (fun i => f i || decide (o ≤ i ∧ i < o + s.length)) b := by
  have hl : (overR (mskL f b) o s).length = b.length := by
    unfold overR
    rw [List.length_append, List.length_append, List.length_take, List.length_drop, msk_len]
    omega
  apply List.ext_getElem?
  intro i
  by_cases hi : i < b.length
  · have hR : (mskL (fun i => f i || decide (o ≤ i ∧ i < o + s.length)) b)[i]? = some (if (f i || decide (o ≤ i ∧ i < o + s.length)) = true then b.getD i 0 else 0) := by
      simp [mskL, hi]
    have hM : (mskL f b)[i]? = some (if f i = true then b.getD i 0 else 0) := by simp [mskL, hi]
    rw [hR]
    unfold overR
    have ltk : ((mskL f b).take o).length = o := by rw [List.length_take, msk_len]; omega
    by_cases h1 : i < o
    · rw [List.append_assoc, List.getElem?_append_left (by rw [ltk]; exact h1), List.getElem?_take_of_lt h1, hM]
      have : decide (o ≤ i ∧ i < o + s.length) = false := decide_eq_false (by omega)
      rw [this, Bool.or_false]
    · by_cases h2 : i < o + s.length
      · rw [List.getElem?_append_left (by rw [List.length_append, ltk]; omega), List.getElem?_append_right (by rw [ltk]; omega), ltk]
        have : decide (o ≤ i ∧ i < o + s.length) = true := decide_eq_true (by omega)
        rw [this, Bool.or_true, if_pos rfl, hs, List.getElem?_take_of_lt (by omega), List.getElem?_drop, show o + (i - o) = i by omega]
        simp [List.getD, hi]
      · rw [List.getElem?_append_right (by rw [List.length_append, ltk]; omega), List.length_append, ltk, List.getElem?_drop, show o + s.length + (i - (o + s.length)) = i by omega, hM]
        have : decide (o ≤ i ∧ i < o + s.length) = false := decide_eq_false (by omega)
        rw [this, Bool.or_false]
  · rw [List.getElem?_eq_none (by rw [hl]; omega), List.getElem?_eq_none (by rw [msk_len]; omega)]
theorem msk_slot {V : Vw} (h : Hold V 7) {k n : Nat} (hk : k < V.ts.length) (hn : n < lvN V k) {b : List Int} (hb : b.length = V.bs.length) : overR (mskL (lvU V k n) b) (plV V k n).toNat ((b.drop (plV V k n).toNat).take (szT V k).toNat) = mskL (lvU V k (n + 1)) b := by
  obtain ⟨p0, p1, z0, z1⟩ := plV_in h hk hn
  have hl : ((b.drop (plV V k n).toNat).take (szT V k).toNat).length = (szT V k).toNat := by rw [List.length_take, List.length_drop]; omega
  rw [msk_over _ _ _ _ (by rw [hl]; omega) (by rw [hl]), lvU_more, hl]
  congr 1
  funext i
  congr 1
  unfold inSl
  congr 1
  apply propext
  omega
/-- A slot's bytes within the image. -/
theorem mkB_chunk {V : Vw} (h : Hold V 7) {j : Nat} (hj : j < V.ts.length) : ∀ N n, n < N → N ≤ lvN V j → ((mkB V j N).drop (n * (szT V j).toNat)).take (szT V j).toNat = slbV V j (plV V j n)
  | N + 1, n, hn, hN => by
    have hl := mkB_len h hj N (by omega)
    have sl := slb_len h hj (n := N) (by omega)
    rw [mkB]
    rcases Nat.lt_or_ge n N with q | q
    · have hm : n * (szT V j).toNat + (szT V j).toNat ≤ N * (szT V j).toNat := by
        have := Nat.mul_le_mul_right (szT V j).toNat (show n + 1 ≤ N from q)
        rw [Nat.add_mul, Nat.one_mul] at this
        exact this
      rw [List.drop_append_of_le_length (by omega), List.take_append_of_le_length (by rw [List.length_drop]; omega)]
      exact mkB_chunk h hj N n q (by omega)
    · obtain rfl : n = N := by omega
      rw [← hl, List.drop_left, ← sl, List.take_length]
/-- The first i bytes that f does not tell are noughts. -/
def clnI (f : Nat → Bool) (b : List Int) (i : Nat) : List Int := (List.range b.length).map (fun k => if k < i ∧ f k = false then 0 else b.getD k 0)
theorem cln_len (f : Nat → Bool) (b : List Int) (i : Nat) : (clnI f b i).length = b.length := by simp [clnI]
theorem cln_zero (f : Nat → Bool) (b : List Int) : clnI f b 0 = b := by
  apply List.ext_getElem
  · simp [clnI]
  · intro i h1 h2
    simp [clnI, List.getD, h2]
theorem cln_end (f : Nat → Bool) (b : List Int) : clnI f b b.length = mskL f b := by
  unfold clnI mskL
  apply List.map_congr_left
  intro i hi
  have hi := List.mem_range.1 hi
  cases h : f i
  · rw [if_pos ⟨hi, rfl⟩, if_neg (by decide)]
  · rw [if_neg (by rintro ⟨_, q⟩; cases q), if_pos rfl]
theorem cln_yes {f : Nat → Bool} {b : List Int} {i : Nat} (h : f i = true) : clnI f b (i + 1) = clnI f b i := by
  unfold clnI
  apply List.map_congr_left
  intro k _
  by_cases e : k = i
  · subst e
    rw [if_neg (by rintro ⟨_, q⟩; rw [h] at q; cases q), if_neg (by rintro ⟨_, q⟩; rw [h] at q; cases q)]
  · have : (k < i + 1 ∧ f k = false) ↔ (k < i ∧ f k = false) := ⟨fun q => ⟨by have := q.1; omega, q.2⟩, fun q => ⟨by have := q.1; omega, q.2⟩⟩
    simp only [this]
theorem cln_no {f : Nat → Bool} {b : List Int} {i : Nat} (h : f i = false) : clnI f b (i + 1) = (clnI f b i).set i 0 := by
  apply List.ext_getElem
  · simp [clnI]
  · intro k h1 h2
    rw [List.getElem_set]
    simp only [clnI, List.getElem_map, List.getElem_range]
    by_cases e : i = k
    · subst e
      rw [if_pos ⟨by omega, h⟩, if_pos rfl]
    · rw [if_neg e]
      have : (k < i + 1 ∧ f k = false) ↔ (k < i ∧ f k = false) := ⟨fun q => ⟨by have := q.1; omega, q.2⟩, fun q => ⟨by have := q.1; omega, q.2⟩⟩
      simp only [this]
theorem mv_lvS (V : Vw) (B : Int) (j : Nat) : ∀ n i, lvS (movV V B) j n i = lvS V j n i
  | 0, _ => rfl
  | n + 1, i => by rw [lvS, lvS, mv_lvS V B j n i]; rfl
theorem mv_lvT (V : Vw) (B : Int) : ∀ k i, lvT (movV V B) k i = lvT V k i
  | 0, _ => rfl
  | k + 1, i => by rw [lvT, lvT, mv_lvT V B k i, mv_lvS]; rfl
end Go.Proofs.YtbfamjnnlcopiaaGreatDoor

/- The document's fields. -/
namespace Go.Proofs.YtbfamjnnlcopiaaGreatDoor
open Go.RowKit
set_option linter.unusedVariables false
set_option maxRecDepth 4000

theorem ownZ_neg {rs : List HRw} {x : Int} : (ownZ rs x < 0) ↔ ownI rs x = none := by
  unfold ownZ
  cases ownI rs x with
  | none => simp
  | some i => simp
set_option maxRecDepth 20000 in
set_option maxHeartbeats 4000000 in
theorem rfields_any (V : Vw) (A : Va) (i : Nat) (w : World) (h : Rv w V A) (hi : i < V.rs.length) (hl : (rwD V.rs i).live = true) (hV : Hold V 4) (r : Bool) (hr : rule7 V i = r) :
    Calls Tryz.prog 35 #[.agg #[.int .i64 V.base, .int .i64 V.pgs, .slice A.ka A.kn A.kc, .slice A.ra A.rn A.rc, .slice A.sa A.sn A.sc, .slice A.ba A.bn A.bc], .int .i64 (i : Nat)] w fun e w' => e = .returned (.bool r) ∧ Below w.heap.size w w' := by
  obtain ⟨E, hE, bE, rE⟩ := vbox w V A
  have HBE : Hid (Below w.heap.size w E) := bE
  have hE' := h.keep bE
  unfold rule7 at hr
  have hlies := hV.lies (Nat.le_refl _) i hi hl
  have hlive := hV.live (Nat.le_refl _) i hi hl
  have hgd := (hV.r1 (by decide)).2.2.1
  obtain ⟨b, off, ea, q0, q1, q2, q3⟩ := hE'.rs.at i hi
  rw [hl] at q1
  rw [hl, Bool.not_true, Bool.false_or] at hr
  obtain ⟨R, hR⟩ : ∃ R, rwD V.rs i = R := ⟨_, rfl⟩
  rw [hR] at q0 q2 q3 hr hlies hlive
  obtain ⟨gen, lv, kd, x⟩ := R
  simp only at q0 q2 q3 hr hlies hlive
  obtain ⟨x0, x1, _, z1, z2, hpl, hpn⟩ := hlies
  obtain ⟨g1, g2, k0, k1, _⟩ := hlive
  obtain ⟨kj, rfl⟩ : ∃ kj : Nat, kd = (kj : Int) := ⟨kd.toNat, by omega⟩
  obtain ⟨xn, rfl⟩ : ∃ xn : Nat, x = (xn : Int) := ⟨x.toNat, by omega⟩
  rw [Int.toNat_natCast] at hr x1 z1 z2 hpl hpn
  have hkj : kj < V.ks.length := by omega
  obtain ⟨gk, ok, la, lc, ek, e0, e1, hIl, _, _⟩ := hE'.ks kj hkj
  rw [← knD_at hkj] at e0 e1 hIl
  obtain ⟨K, hK⟩ : ∃ K, knD V.ks kj = K := ⟨_, rfl⟩
  rw [hK] at hr x1 z1 z2 hpl hpn e0 e1 hIl
  obtain ⟨zz, l⟩ := K
  simp only at hr x1 z1 z2 hpl hpn e0 e1 hIl
  obtain ⟨hp1, _⟩ := placed_all l 0 hpl
  have HPL : Hid (∀ p ∈ l, 0 ≤ p ∧ p + 8 ≤ zz) := hp1
  have HX1 : Hid ((xn : Int) + zz ≤ (V.bs.length : Int) ∧ zz ≤ 4096) := ⟨x1, z2⟩
  have HB8 : Hid (∀ x ∈ V.bs, 0 ≤ x ∧ x ≤ 255) := h.bs.1
  have HV4 : Hid (Hold V 4) := hV
  have HVE : Hid (Rv E V A) := hE'
  have bz := h.bz
  have bl := h.bl
  have kl := h.kl
  have rl := h.rl
  obtain ⟨ll, hll⟩ : ∃ ll, l.length = ll := ⟨_, rfl⟩
  have HLL : Hid (l.length = ll) := hll
  have l9 : ll ≤ 16 := by omega
  rw [hll] at e1
  have HR : Hid ((l.all fun p => leads V (wordV V.bs ((xn : Int) + p))) = r) := hr
  have HIL : Hid (IsI E la l) := hIl
  have wb : IntKind.u64.wrap V.base = V.base := by unfold goodR at hgd; rw [IntKind.wrap_u64]; omega
  have gb1 : 256 ≤ V.base ∧ V.base ≤ 1099511627776 := by unfold goodR at hgd; omega
  have HBL : Hid (V.bs.length = A.bn ∧ V.bs.length ≤ 16384) := ⟨bl, bz⟩
  have wbn : IntKind.u64.wrap (A.bn : Int) = (A.bn : Int) := by rw [IntKind.wrap_u64]; omega
  have xB : xn ≤ 16384 := by omega
  have i0 : (i : Int) < (A.rn : Int) := by omega
  have kk0 : (kj : Int) < (A.kn : Int) := by omega
  have RE : Hid (E.heap[w.heap.size]? = some (.cells #[.int .i64 V.base, .int .i64 V.pgs, .slice A.ka A.kn A.kc, .slice A.ra A.rn A.rc, .slice A.sa A.sn A.sc, .slice A.ba A.bn A.bc] 27 (0, 0))) := rE
  obtain ⟨G, hG⟩ : ∃ G, E.alloc (.cells #[.int .i64 gen, .bool true, .int .i64 (kj : Int), .int .i64 (xn : Int)] 73) = G := ⟨_, rfl⟩
  have bG : Below E.heap.size E G := by rw [← hG]; exact (Below.refl _ E).alloc (Nat.le_refl _) _
  have rG : G.heap[E.heap.size]? = some (.cells #[.int .i64 gen, .bool true, .int .i64 (kj : Int), .int .i64 (xn : Int)] 73 (0, 0)) := by rw [← hG]; exact Go.heap_alloc_new E _
  have RG : Hid (G.heap[E.heap.size]? = some (.cells #[.int .i64 gen, .bool true, .int .i64 (kj : Int), .int .i64 (xn : Int)] 73 (0, 0))) := rG
  have BG : Hid (Below E.heap.size E G) := bG
  obtain ⟨nb, hnb⟩ : ∃ nb, w.heap.size = nb := ⟨_, rfl⟩
  rw [hnb] at rE RE
  obtain ⟨ng, hng⟩ : ∃ ng, E.heap.size = ng := ⟨_, rfl⟩
  rw [hng] at rG RG
  have d2 : E.cell? ⟨nb, 2, none⟩ = some (.slice A.ka A.kn A.kc) := cell_of_row _ _ 2 _ _ _ rE
  have d3 : E.cell? ⟨nb, 3, none⟩ = some (.slice A.ra A.rn A.rc) := cell_of_row _ _ 3 _ _ _ rE
  rw [ea] at d3
  rw [ek] at d2
  have f2 : G.cell? ⟨nb, 2, none⟩ = some (.slice (some ⟨gk, ok, none⟩) A.kn A.kc) := bcell bG d2
  have f3 : G.cell? ⟨ng, 2, none⟩ = some (.int .i64 (kj : Int)) := cell_of_row _ _ 2 _ _ _ rG
  have f4 : G.cell? ⟨gk, ok + kj * 2 + 1, none⟩ = some (.slice la ll lc) := bcell bG e1
  clear h hr hV x0 x1 z1 z2 hpl hpn g1 g2 k0 k1 hK hp1 bE rE rG bG hR hll hi hl hE' hIl e0 e1 bz bl kl rl hgd ea ek
  go_enter Tryz.func35, Tryz.ntmps35
  go_wp2_with fail
  go_loopw [22] (fun iv wz => ∃ k : Nat, k ≤ ll ∧ iv = .int .i64 (k : Nat) ∧ (∀ m, m < k → leads V (wordV V.bs ((xn : Int) + l.getD m 0)) = true) ∧ Below G.heap.size G wz) (fun iv _ => ll - lenW iv)
  case atStart => exact ⟨0, Nat.zero_le _, rfl, fun m hm => by omega, by first | exact Below.refl _ _ | (rw [← hG]; exact Below.refl _ _)⟩
  case round =>
    obtain ⟨k, hk, rfl, hm, hb⟩ := hrel
    rename World => wz
    have HM : Hid (∀ m, m < k → leads V (wordV V.bs ((xn : Int) + l.getD m 0)) = true) := hm
    have BZ : Hid (Below G.heap.size G wz) := hb
    have BEZ : Hid (Below E.heap.size E wz) := BG.out.trans (hb.mono BG.out.size)
    have FB : Hid (∀ w', Below wz.heap.size wz w' → Below G.heap.size G w' ∧ Below w.heap.size w w') := fun w' b' => by
      have b2 := BZ.out.trans (b'.mono BZ.out.size)
      exact ⟨b2, HBE.out.trans ((BG.out.trans (b2.mono BG.out.size)).mono HBE.out.size)⟩
    clear hm hb
    by_cases hkl : k < ll
    · have hkl' : k < l.length := by rw [HLL.out]; exact hkl
      obtain ⟨gl, ol, rfl, cl⟩ := (HIL.out.keep BEZ.out).get k hkl'
      have st := all_step (P := fun p => leads V (wordV V.bs ((xn : Int) + p))) hkl' HM.out
      obtain ⟨p0, p1⟩ := HPL.out (l.getD k 0) (by simp [List.getD, hkl'])
      obtain ⟨y0, hy⟩ : ∃ y, l.getD k 0 = y := ⟨_, rfl⟩
      rw [hy] at cl st p0 p1
      obtain ⟨p, rfl⟩ : ∃ p : Nat, y0 = (p : Int) := ⟨y0.toNat, by omega⟩
      obtain ⟨v, hv⟩ : ∃ v, wordV V.bs ((xn : Int) + (p : Int)) = v := ⟨_, rfl⟩
      have hvb := word_bd HB8.out ((xn : Int) + (p : Int))
      rw [hv] at hvb
      simp only [hv] at st
      have ST : Hid ((leads V v = false → r = false) ∧ (leads V v = true → ∀ m, m < k + 1 → leads V (wordV V.bs ((xn : Int) + l.getD m 0)) = true)) := ⟨fun e => by rw [← HR.out]; exact st.1 e, st.2⟩
      have x1 := HX1.out
      have HW : Hid (wordV V.bs ((xn + p : Nat) : Int) = v) := by show _ = _; rw [← hv]; congr 1
      have XP : Hid (xn + p + 8 ≤ V.bs.length) := by show _ ≤ _; omega
      have wxp : IntKind.i64.wrap ((xn : Int) + (p : Int)) = ((xn + p : Nat) : Int) := by rw [IntKind.wrap_i64]; omega
      have RW : Hid (Rv wz V A) := HVE.out.keep BEZ.out
      have vb : wz.heap[nb]? = _ := (BEZ.out.block nb (hlt RE.out)).trans RE.out
      have v0 : wz.cell? ⟨nb, 0, none⟩ = some (.int .i64 V.base) := cell_of_row _ _ 0 _ _ _ vb
      have v1 : wz.cell? ⟨nb, 1, none⟩ = some (.int .i64 V.pgs) := cell_of_row _ _ 1 _ _ _ vb
      have v2 : wz.cell? ⟨nb, 2, none⟩ = some (.slice A.ka A.kn A.kc) := cell_of_row _ _ 2 _ _ _ vb
      have v3 : wz.cell? ⟨nb, 3, none⟩ = some (.slice A.ra A.rn A.rc) := cell_of_row _ _ 3 _ _ _ vb
      have v4 : wz.cell? ⟨nb, 4, none⟩ = some (.slice A.sa A.sn A.sc) := cell_of_row _ _ 4 _ _ _ vb
      have v5 : wz.cell? ⟨nb, 5, none⟩ = some (.slice A.ba A.bn A.bc) := cell_of_row _ _ 5 _ _ _ vb
      have rp : wz.cell? ⟨ng, 3, none⟩ = some (.int .i64 (xn : Int)) := cell_of_row _ _ 3 _ _ _ ((BZ.out.block ng (hlt RG.out)).trans RG.out)
      have kk : (k : Int) < (ll : Int) := by omega
      have VB : Hid (0 ≤ v ∧ v ≤ 18446744073709551615) := hvb
      clear st hv hy p0 p1 hkl' hvb x1 vb
      by_cases w0 : v = 0
      · have b0 : (v == 0) = true := by rw [beq_iff_eq]; exact w0
        have b1 : (v != 0) = false := by rw [bne, b0]; rfl
        have NX : Hid (∀ m, m < k + 1 → leads V (wordV V.bs ((xn : Int) + l.getD m 0)) = true) := ST.out.2 (by unfold leads; rw [decide_eq_true w0]; rfl)
        clear w0 ST
        go_wp2_with (first
            | (go_at_call 42; refine (word_any V A (xn + p) _ RW.out XP.out v HW.out).mono ?_; rintro e w2 ⟨rfl, b2⟩; have B2 : Hid (Below wz.heap.size wz w2) := b2; have h0 := bcell b2 v0; have h1 := bcell b2 v1; have h2 := bcell b2 v2; have h3 := bcell b2 v3; have h4 := bcell b2 v4; have h5 := bcell b2 v5; clear b2))
        have BB := FB.out w2 B2.out
        go_roundw
        case rel => exact ⟨k + 1, by omega, by congr 1, NX.out, BB.1⟩
        case measure => simp [lenW]; omega
      · have b0 : (v == 0) = false := by rw [beq_eq_false_iff_ne]; exact w0
        have b1 : (v != 0) = true := by rw [bne, b0]; rfl
        have LD : Hid (leads V v = (ownI V.rs (v - V.base)).isSome) := by show _ = _; unfold leads; rw [decide_eq_false w0, Bool.false_or]
        by_cases lt1 : v < V.base
        · have F : Hid (false = r) := by
            show false = r
            refine (ST.out.1 ?_).symm
            rw [LD.out, own_far HV4.out (Nat.le_refl _) (by omega)]
            rfl
          clear w0 ST
          go_wp2_with (first
            | (go_at_call 42; refine (word_any V A (xn + p) _ RW.out XP.out v HW.out).mono ?_; rintro e w2 ⟨rfl, b2⟩; have B2 : Hid (Below wz.heap.size wz w2) := b2; have h0 := bcell b2 v0; have h1 := bcell b2 v1; have h2 := bcell b2 v2; have h3 := bcell b2 v3; have h4 := bcell b2 v4; have h5 := bcell b2 v5; clear b2))
          have BB := FB.out w2 B2.out
          go_ret
          exact ⟨ret_bool F.out, by first | exact BB.2 | exact hnb ▸ BB.2⟩
        · obtain ⟨y, hy⟩ : ∃ y, v - V.base = y := ⟨_, rfl⟩
          have vb2 := VB.out
          have wy : IntKind.u64.wrap (v - V.base) = y := by rw [IntKind.wrap_u64]; omega
          by_cases lt2 : (A.bn : Int) ≤ y
          · have F : Hid (false = r) := by
              show false = r
              refine (ST.out.1 ?_).symm
              rw [LD.out, hy, own_far HV4.out (Nat.le_refl _) (by have := HBL.out.1; omega)]
              rfl
            clear w0 ST hy vb2
            go_wp2_with (first
            | (go_at_call 42; refine (word_any V A (xn + p) _ RW.out XP.out v HW.out).mono ?_; rintro e w2 ⟨rfl, b2⟩; have B2 : Hid (Below wz.heap.size wz w2) := b2; have h0 := bcell b2 v0; have h1 := bcell b2 v1; have h2 := bcell b2 v2; have h3 := bcell b2 v3; have h4 := bcell b2 v4; have h5 := bcell b2 v5; clear b2))
            have BB := FB.out w2 B2.out
            go_ret
            exact ⟨ret_bool F.out, by first | exact BB.2 | exact hnb ▸ BB.2⟩
          · have hb2 := HBL.out
            have wy2 : IntKind.i64.wrap y = y := by rw [IntKind.wrap_i64]; omega
            obtain ⟨oz, hoz⟩ : ∃ oz, ownZ V.rs y = oz := ⟨_, rfl⟩
            have OZ : Hid (ownZ V.rs y = oz) := hoz
            have ng2 := ownZ_neg (rs := V.rs) (x := y)
            rw [hoz] at ng2
            by_cases lt3 : oz < 0
            · have F : Hid (false = r) := by
                show false = r
                refine (ST.out.1 ?_).symm
                rw [LD.out, hy, ng2.1 lt3]
                rfl
              clear w0 ST hy vb2 hb2 hoz ng2
              go_wp2_with (first
            | (go_at_call 42; refine (word_any V A (xn + p) _ RW.out XP.out v HW.out).mono ?_; rintro e w2 ⟨rfl, b2⟩; have B2 : Hid (Below wz.heap.size wz w2) := b2; have h0 := bcell b2 v0; have h1 := bcell b2 v1; have h2 := bcell b2 v2; have h3 := bcell b2 v3; have h4 := bcell b2 v4; have h5 := bcell b2 v5; clear b2)
            | (go_at_call 34; refine (owner_any V A y _ (RW.out.keep B2.out) oz OZ.out).mono ?_; rintro e w3 ⟨rfl, b3⟩; have B3 : Hid (Below wz.heap.size wz w3) := B2.out.trans (b3.mono B2.out.size); clear b3))
              have BB := FB.out w3 B3.out
              go_ret
              exact ⟨ret_bool F.out, by first | exact BB.2 | exact hnb ▸ BB.2⟩
            · have NX : Hid (∀ m, m < k + 1 → leads V (wordV V.bs ((xn : Int) + l.getD m 0)) = true) := ST.out.2 (by
                rw [LD.out, hy]
                cases e : ownI V.rs y with
                | none => exact absurd (ng2.2 e) lt3
                | some j => rfl)
              clear w0 ST hy vb2 hb2 hoz ng2
              go_wp2_with (first
            | (go_at_call 42; refine (word_any V A (xn + p) _ RW.out XP.out v HW.out).mono ?_; rintro e w2 ⟨rfl, b2⟩; have B2 : Hid (Below wz.heap.size wz w2) := b2; have h0 := bcell b2 v0; have h1 := bcell b2 v1; have h2 := bcell b2 v2; have h3 := bcell b2 v3; have h4 := bcell b2 v4; have h5 := bcell b2 v5; clear b2)
            | (go_at_call 34; refine (owner_any V A y _ (RW.out.keep B2.out) oz OZ.out).mono ?_; rintro e w3 ⟨rfl, b3⟩; have B3 : Hid (Below wz.heap.size wz w3) := B2.out.trans (b3.mono B2.out.size); clear b3))
              have BB := FB.out w3 B3.out
              go_roundw
              case rel => exact ⟨k + 1, by omega, by congr 1, NX.out, BB.1⟩
              case measure => simp [lenW]; omega
    · obtain rfl : k = ll := by omega
      have F : Hid (true = r) := by
        show true = r
        rw [← HR.out]
        exact (all_done (fun m hm => HM.out m (by rw [HLL.out] at hm; exact hm))).symm
      have BB := FB.out wz (Below.refl _ _)
      go_wp2
      go_ret
      exact ⟨ret_bool F.out, by first | exact BB.2 | exact hnb ▸ BB.2⟩
end Go.Proofs.YtbfamjnnlcopiaaGreatDoor

/- The document's span: where a slot begins -/
namespace Go.Proofs.YtbfamjnnlcopiaaGreatDoor
open Go.RowKit
set_option linter.unusedVariables false
set_option maxRecDepth 4000

theorem rsize_any (mb mg n : Nat) (p c s : Int) (f : Nat → Bool) (w : World) (h : Ref w mb mg p c s n f) :
    Calls Tryz.prog 20 #[.pointer (some ⟨mb, 0, none⟩)] w fun e w' => e = .returned (.int .i64 (szI c s)) ∧ w = w' := by
  have b1 := h.c1
  have b2 := h.c2
  clear h
  by_cases hc : c = 7
  · subst hc
    rw [show szI 7 s = s from rfl]
    go_enter Tryz.func20, Tryz.ntmps20
    go_wp2
    go_ret
    exact ⟨rfl, rfl⟩
  · have hq : (c == 7) = false := beq_eq_false_iff_ne.2 hc
    have E : Hid (szI c s = sizeI c) := by show _ = _; unfold szI; rw [if_neg hc]
    rw [E.out]
    clear hc
    go_enter Tryz.func20, Tryz.ntmps20
    go_wp2_with (go_at_call 60; refine (qsize_any c _).mono ?_; rintro e w' ⟨rfl, rfl⟩)
    go_ret
    exact ⟨rfl, rfl⟩
theorem rsize_q (mb mg n : Nat) (p c s : Int) (f : Nat → Bool) (z : Int) (w : World) (h : Ref w mb mg p c s n f) (hz : szI c s = z) :
    Calls Tryz.prog 20 #[.pointer (some ⟨mb, 0, none⟩)] w fun e w' => e = .returned (.int .i64 z) ∧ w' = w := by
  subst hz; exact (rsize_any mb mg n p c s f w h).mono fun e w' ⟨h1, h2⟩ => ⟨h1, h2.symm⟩
/-- The document's At of a slot. -/
theorem rat_in (mb mg n : Nat) (p c s : Int) (f : Nat → Bool) (i : Nat) (w : World) (h : Ref w mb mg p c s n f) (r : Rt p c s) (hn : slN c = n) (hi : i < n) :
    Calls Tryz.prog 22 #[.pointer (some ⟨mb, 0, none⟩), .int .i64 (i : Nat)] w fun e w' => e = .returned (.tuple #[.int .i64 (256 * p + (i : Int) * szI c s), .bool true]) ∧ ∃ m, w' = w.drewN m := by
  have H : Hid (Ref w mb mg p c s n f) := h
  have b0 := h.c0
  have b3 := h.c3
  obtain ⟨k1, k2, k3⟩ := r.place i (by omega)
  obtain ⟨f1, f2, f3, f4, f5, f6, f7, f8, _⟩ := r.facts
  have hp0 := r.p0
  have hp1 := r.p1
  obtain ⟨z, hz⟩ : ∃ z, szI c s = z := ⟨_, rfl⟩
  have HZ : Hid (szI c s = z) := hz
  rw [hz] at k1 k2 k3 f4 f5 f6 ⊢
  have hp2 : p ≤ 4095 := by omega
  have hn6 : n ≤ 16 := by omega
  have g1 : IntKind.i64.wrap (256 * p) = 256 * p := by rw [IntKind.wrap_i64]; omega
  have g2 : IntKind.i64.wrap ((i : Int) * z) = (i : Int) * z := by rw [IntKind.wrap_i64]; omega
  have g3 : IntKind.i64.wrap (256 * p + (i : Int) * z) = 256 * p + (i : Int) * z := by rw [IntKind.wrap_i64]; omega
  clear h r k3 f3 f6 f7 f8 hp1 hz f1 f2 hn
  go_enter Tryz.func22, Tryz.ntmps22
  go_wp2_with fail
  go_quiet ((go_at_call 20; exact Calls.quiet_of_same (rsize_q mb mg n p c s f z _ (H.out.drewN _) HZ.out)))
  go_wp2
  go_ret2
  exact ⟨rfl, _, rfl⟩
end Go.Proofs.YtbfamjnnlcopiaaGreatDoor
