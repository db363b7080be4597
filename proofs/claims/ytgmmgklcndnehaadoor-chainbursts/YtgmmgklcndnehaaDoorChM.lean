/- Plain mathematics of layer 19: what is laid is read; writes that are pending. -/
import Derived.Test.YtgmmgklcndnehaaDoorChB
namespace Go.Proofs.YtgmmgklcndnehaaDoor
open Go.RowKit
set_option linter.unusedVariables false
set_option maxRecDepth 4000

theorem lastB_none : ∀ (p : List Wr) (i : Nat) (s : List Int), (∀ x ∈ p, x.at ≠ i) → lastB p i s = s
  | [], _, _, _ => rfl
  | x :: r, i, s, h => by
    have e : lastB (x :: r) i s = lastB r i (if x.at = i then x.by else s) := rfl
    rw [e, if_neg (h x (by simp)), lastB_none r i s (fun y hy => h y (by simp [hy]))]
theorem lastB_one : ∀ (p : List Wr) (k : Nat) (h : k < p.length) (s : List Int), (p.map (·.at)).Nodup → lastB p p[k].at s = p[k].by
  | x :: r, 0, _, s, hn => by
    have e : lastB (x :: r) x.at s = lastB r x.at (if x.at = x.at then x.by else s) := rfl
    rw [List.map_cons, List.nodup_cons] at hn
    show lastB (x :: r) x.at s = x.by
    rw [e, if_pos rfl, lastB_none r _ _ (fun y hy e => hn.1 (by rw [← e]; exact List.mem_map_of_mem hy))]
  | x :: r, k + 1, h, s, hn => by
    rw [List.map_cons, List.nodup_cons] at hn
    have hk : k < r.length := by simpa using h
    have e : lastB (x :: r) r[k].at s = lastB r r[k].at (if x.at = r[k].at then x.by else s) := rfl
    show lastB (x :: r) r[k].at s = r[k].by
    rw [e]
    exact lastB_one r k _ _ hn.2

/-- A disk into which so many writes went, none of them sure. -/
def wrD (d : Dk) (ws : List (Int × List Int)) (k : Nat) : Dk := { d with pend := d.pend ++ (ws.take k).map (fun x => ⟨x.1.toNat, x.2⟩), ops := d.ops + k }
theorem wrD_zero (d : Dk) (ws : List (Int × List Int)) : wrD d ws 0 = d := by simp [wrD]
theorem wrD_next {d : Dk} {ws : List (Int × List Int)} {k : Nat} (hk : k < ws.length) (hd : d.down = false) (hl : d.left = 0) (h1 : 0 ≤ ws[k].1) (h2 : ws[k].1 < d.n) (h3 : ws[k].2.length = 64) :
    writeD (wrD d ws k) ws[k].1 ws[k].2 = wrD d ws (k + 1) ∧ writeE (wrD d ws k) ws[k].1 ws[k].2 = 0 := by
  have hc : closedE (wrD d ws k) ws[k].1 = 0 := closedE_zero.2 ⟨hd, h1, h2⟩
  have hp : (pushD (wrD d ws k) ws[k].1.toNat ws[k].2).left = 0 := hl
  have hl' : (wrD d ws k).left = 0 := hl
  constructor
  · unfold writeD
    rw [if_pos ⟨hc, by omega⟩]
    unfold workD
    rw [if_neg (by rw [hp]; decide), if_neg (by rw [hp]; decide)]
    unfold pushD wrD
    rw [List.take_succ_eq_append_getElem hk, secL_full h3, List.map_append, ← List.append_assoc]
    rfl
  · unfold writeE
    rw [if_pos hc, if_neg (by omega), workE, if_neg (by rw [hl']; decide)]
theorem wrC_nodup {b l : List Int} (h : apC l = true) : (((wrC b l).take l.length).map (fun x => (⟨x.1.toNat, x.2⟩ : Wr)) |>.map (·.at)).Nodup := by
  rw [List.take_of_length_le (Nat.le_of_eq (wrC_len b l)), List.map_map]
  have e : (wrC b l).map ((fun x : Wr => x.at) ∘ fun x => (⟨x.1.toNat, x.2⟩ : Wr)) = l.map Int.toNat := by
    apply List.ext_getElem
    · simp [wrC_len]
    · intro i h1 h2
      have hi : i < l.length := by simpa using h2
      simp [wrC_at, List.getD_eq_getElem?_getD, List.getElem?_eq_getElem hi]
  rw [e]
  obtain ⟨hr, hn⟩ := apC_iff.1 h
  refine List.pairwise_iff_getElem.2 fun i j hi hj hij e => ?_
  simp only [List.getElem_map] at e
  have hi' : i < l.length := by simpa using hi
  have hj' : j < l.length := by simpa using hj
  have a := hr _ (List.getElem_mem hi')
  have c := hr _ (List.getElem_mem hj')
  exact (List.pairwise_iff_getElem.1 hn i j hi' hj' hij) (by omega)

/-- A chain stands on a disk. -/
structure ChIn (d : Dk) (b l : List Int) : Prop where
  up : d.down = false
  len : l.length = cntC b.length
  ap : apC l = true
  fit : ∀ s ∈ l, s ≤ (d.n : Int) - 2
  rd : ∀ i (h : i < l.length), readL d l[i] = secC (pcC b i) (nxC l i)
  all : AllB b
theorem getD_at {l : List Int} {i : Nat} (h : i < l.length) : l.getD i 0 = l[i] := by rw [List.getD_eq_getElem?_getD, List.getElem?_eq_getElem h]; rfl
theorem getD_out {l : List Int} {i : Nat} (h : l.length ≤ i) : l.getD i 0 = 0 := by rw [List.getD_eq_getElem?_getD, List.getElem?_eq_none h]; rfl
theorem ChIn.rng {d : Dk} {b l : List Int} (h : ChIn d b l) {i : Nat} (hi : i < l.length) : 1 ≤ l[i] ∧ l[i] ≤ 65534 ∧ l[i] ≤ (d.n : Int) - 2 := by
  have := (apC_iff.1 h.ap).1 _ (List.getElem_mem hi)
  exact ⟨this.1, this.2, h.fit _ (List.getElem_mem hi)⟩
theorem ChIn.nx {d : Dk} {b l : List Int} (h : ChIn d b l) (i : Nat) : 0 ≤ nxC l i ∧ nxC l i < 4294967296 := by
  unfold nxC
  by_cases hi : i + 1 < l.length
  · rw [getD_at hi]; have := h.rng hi; omega
  · rw [getD_out (by omega)]; decide
theorem not_take {l : List Int} (h : l.Nodup) {i : Nat} (hi : i < l.length) : ¬ l[i] ∈ l.take i := fun hm => by
  obtain ⟨j, hj, e⟩ := List.mem_iff_getElem.1 hm
  have hj' : j < i := by simp at hj; omega
  rw [List.getElem_take] at e
  exact (List.pairwise_iff_getElem.1 h j i (by omega) hi hj') e
theorem ChIn.step {d : Dk} {b l : List Int} (h : ChIn d b l) {i n : Nat} (hi : i < l.length) (hn : n - 56 * i ≤ 56 → n = b.length) : secE d (l.take i) l[i] (n - 56 * i) = 0 := by
  obtain ⟨r1, r2, r3⟩ := h.rng hi
  obtain ⟨n0, n1⟩ := h.nx i
  rw [secE_of (not_take (apC_iff.1 h.ap).2 hi) r1 r3]
  unfold rsE
  rw [if_neg (by rw [h.up]; decide), h.rd i hi, secC_sum (pcC_allB h.all i) (pcC_le b i), if_neg (by decide), if_neg ?_]
  rintro ⟨q1, q2⟩
  have e := hn q1
  have hb : 56 * i < b.length := cntC_lt.1 (by rw [← h.len]; exact hi)
  have pl : (pcC b i).length = n - 56 * i := by rw [pcC_len]; omega
  have nx0 : nxC l i = 0 := getD_out (by rw [h.len]; unfold cntC; omega)
  rw [nx0, ← pl, secC_end (pcC_le b i)] at q2
  cases q2
theorem ChIn.run {d : Dk} {b l : List Int} (h : ChIn d b l) (n : Nat) (hn : ∀ i, i < l.length → n - 56 * i ≤ 56 → n = b.length) (hb : b.length ≤ n) : ∀ (k f : Nat), k ≤ l.length →
    ∃ bs, rdG d (f + k) [] [] (l.getD 0 0) n = rdG d f bs (l.take k) (l.getD k 0) (n - 56 * k) ∧ (n = b.length → bs = b.take (56 * k))
  | 0, f, _ => ⟨[], rfl, fun _ => rfl⟩
  | k + 1, f, hk => by
    obtain ⟨bs, e, hbs⟩ := h.run n hn hb k (f + 1) (by omega)
    have hi : k < l.length := hk
    have lb : 56 * k < b.length := cntC_lt.1 (by rw [← h.len]; exact hi)
    have st := h.step hi (hn k hi)
    rw [show f + (k + 1) = f + 1 + k by omega, e, getD_at hi, rdG_go (by omega) st, h.rd k hi, secC_next (pcC_le b k) _ (h.nx k).1 (h.nx k).2]
    refine ⟨_, by rw [List.take_succ_eq_append_getElem hi, show n - 56 * k - 56 = n - 56 * (k + 1) by omega]; rfl, fun en => ?_⟩
    rw [hbs en]
    have pl : (pcC b k).length = min (n - 56 * k) 56 := by rw [pcC_len, en]; omega
    rw [← pl, secC_own (pcC_le b k), pcC, show 56 * (k + 1) = 56 * k + 56 by omega, List.take_add]
theorem ChIn.read {d : Dk} {b l : List Int} (h : ChIn d b l) (h0 : 1 ≤ b.length) (h1 : b.length ≤ 65542) : rdC d (l.getD 0 0) (b.length : Nat) = (b, l, 0, -1) := by
  obtain ⟨bs, e, hbs⟩ := h.run b.length (fun _ _ _ => rfl) (Nat.le_refl _) l.length 1 (Nat.le_refl _)
  have hc : b.length - 56 * l.length = 0 := by rw [h.len]; unfold cntC; omega
  unfold rdC
  rw [if_pos ⟨by omega, by omega⟩, Int.toNat_natCast, ← h.len, Nat.add_comm, e, hbs rfl, hc, rdG_end, List.take_length, List.take_of_length_le (by rw [h.len]; unfold cntC; omega)]
theorem secE_nought (d : Dk) (ss : List Int) (left : Nat) : secE d ss 0 left = 4 := secE_bad (.inr (by omega))
/-- With more bytes it isn't read. -/
theorem ChIn.more {d : Dk} {b l : List Int} (h : ChIn d b l) (h0 : 1 ≤ b.length) (h1 : b.length + 56 ≤ 65542) : rdC d (l.getD 0 0) ((b.length + 56 : Nat) : Int) = ([], [], 4, 0) := by
  have hl := h.len
  obtain ⟨bs, e, hbs⟩ := h.run (b.length + 56) (fun i hi q => by rw [hl] at hi; unfold cntC at hi; omega) (by omega) l.length 2 (Nat.le_refl _)
  have hc : b.length + 56 - 56 * l.length ≠ 0 := by rw [hl]; unfold cntC; omega
  have ec : cntC (b.length + 56) + 1 = 2 + l.length := by rw [hl, cntC_add]; omega
  unfold rdC
  rw [if_pos ⟨by omega, by omega⟩, Int.toNat_natCast, ec, e, getD_out (Nat.le_refl _), rdG_bad hc (by rw [secE_nought]; decide), secE_nought]
/-- What was written is on the disk. -/
theorem ChIn.wrote {d : Dk} {b l : List Int} (hd : d.down = false) (hp : d.pend = []) (hl : l.length = cntC b.length) (ha : apC l = true) (hf : ∀ s ∈ l, s ≤ (d.n : Int) - 2) (hb : AllB b) : ChIn (wrD d (wrC b l) l.length) b l := by
  refine ⟨hd, hl, ha, hf, fun i hi => ?_, hb⟩
  have r := (apC_iff.1 ha).1 _ (List.getElem_mem hi)
  have r2 := hf _ (List.getElem_mem hi)
  have hc : closedE (wrD d (wrC b l) l.length) l[i] = 0 := closedE_zero.2 ⟨hd, by omega, by show l[i] < (d.n : Int); omega⟩
  have hw : i < (wrC b l).length := by rw [wrC_len]; exact hi
  have ep : (wrD d (wrC b l) l.length).pend = ((wrC b l).take l.length).map (fun x => (⟨x.1.toNat, x.2⟩ : Wr)) := by show d.pend ++ _ = _; rw [hp]; rfl
  have hq : i < (((wrC b l).take l.length).map (fun x => (⟨x.1.toNat, x.2⟩ : Wr))).length := by simp [wrC_len]; exact hi
  have q := lastB_one _ i hq ((wrD d (wrC b l) l.length).sure l[i].toNat) (wrC_nodup ha)
  have e1 : (((wrC b l).take l.length).map (fun x => (⟨x.1.toNat, x.2⟩ : Wr)))[i] = ⟨l[i].toNat, secC (pcC b i) (nxC l i)⟩ := by
    simp [wrC_at, List.getD_eq_getElem?_getD, List.getElem?_eq_getElem hi]
  rw [e1] at q
  rw [readL, if_pos hc, ep]
  exact q
end Go.Proofs.YtgmmgklcndnehaaDoor
