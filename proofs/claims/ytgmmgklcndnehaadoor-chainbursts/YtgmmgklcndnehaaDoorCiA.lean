/- Plain mathematics of layer 19: a burst in a sector of a chain. -/
import Derived.Test.YtgmmgklcndnehaaDoorChM
namespace Go.Proofs.YtgmmgklcndnehaaDoor
open Go.RowKit
set_option linter.unusedVariables false
set_option maxRecDepth 4000

theorem sumOk_form {b : List Int} (hb : AllB b) (hl : b.length = 64) : sumOkC b = true ↔ b = b.take 60 ++ putL 4 (sumI (b.take 60)) := by
  obtain ⟨s0, s1⟩ := sumI_bd (hb.take 60)
  have ht : (b.drop 60).length = 4 := by simp [hl]
  have q := four_iff (hb.drop 60) ht s0 s1
  unfold sumOkC
  rw [decide_eq_true_eq, q]
  constructor
  · intro e
    rw [← e, List.take_append_drop]
  · intro e
    have e2 := congrArg (fun x => List.drop 60 x) e
    rw [List.drop_left' (by simp [hl])] at e2
    exact e2
theorem sumOk_more {b : List Int} (hb : AllB b) (hl : b.length = 64) (h : sumOkC b = true) : moreL 0 b = steps 32 4294967295 ^^^ 4294967295 := by
  have e := (sumOk_form hb hl).1 h
  have r := residue (b.take 60) (hb.take 60)
  rw [← e] at r
  show moreF (0 ^^^ 4294967295) b ^^^ 4294967295 = _
  rw [Nat.zero_xor, r]
/-- A turned burst is seen. -/
theorem sumOk_burst {b c : List Int} {p e : Nat} (hb : AllB b) (hc : AllB c) (hl : b.length = 64) (hlc : c.length = 64) (h : sumOkC b = true) (hn : numB c = numB b ^^^ (e <<< p)) (he : e < 4294967296) (h0 : e ≠ 0) (hp : p < 512) : sumOkC c = false := by
  cases q : sumOkC c
  · rfl
  · have e1 := sumOk_more hb hl h
    have e2 := sumOk_more hc hlc q
    exact absurd ((burst_law b c p e (by omega) hn he (fun _ => by omega)).1 (by rw [e1, e2])) h0

/-- A chain stands on a disk, up to its p-th sector. -/
structure ChPre (d : Dk) (b l : List Int) (p : Nat) : Prop where
  up : d.down = false
  len : l.length = cntC b.length
  ap : apC l = true
  fit : ∀ s ∈ l, s ≤ (d.n : Int) - 2
  rd : ∀ i (h : i < l.length), i < p → readL d l[i] = secC (pcC b i) (nxC l i)
  all : AllB b
theorem ChPre.rng {d : Dk} {b l : List Int} {p : Nat} (h : ChPre d b l p) {i : Nat} (hi : i < l.length) : 1 ≤ l[i] ∧ l[i] ≤ 65534 ∧ l[i] ≤ (d.n : Int) - 2 := by
  have := (apC_iff.1 h.ap).1 _ (List.getElem_mem hi)
  exact ⟨this.1, this.2, h.fit _ (List.getElem_mem hi)⟩
theorem ChPre.nx {d : Dk} {b l : List Int} {p : Nat} (h : ChPre d b l p) (i : Nat) : 0 ≤ nxC l i ∧ nxC l i < 4294967296 := by
  unfold nxC
  by_cases hi : i + 1 < l.length
  · rw [getD_at hi]; have := h.rng hi; omega
  · rw [getD_out (by omega)]; decide
theorem ChPre.step {d : Dk} {b l : List Int} {p : Nat} (h : ChPre d b l p) {i : Nat} (hi : i < l.length) (hp : i < p) : secE d (l.take i) l[i] (b.length - 56 * i) = 0 := by
  obtain ⟨r1, r2, r3⟩ := h.rng hi
  obtain ⟨n0, n1⟩ := h.nx i
  rw [secE_of (not_take (apC_iff.1 h.ap).2 hi) r1 r3]
  unfold rsE
  rw [if_neg (by rw [h.up]; decide), h.rd i hi hp, secC_sum (pcC_allB h.all i) (pcC_le b i), if_neg (by decide), if_neg ?_]
  rintro ⟨q1, q2⟩
  have hb : 56 * i < b.length := cntC_lt.1 (by rw [← h.len]; exact hi)
  have pl : (pcC b i).length = b.length - 56 * i := by rw [pcC_len]; omega
  have nx0 : nxC l i = 0 := getD_out (by rw [h.len]; unfold cntC; omega)
  rw [nx0, ← pl, secC_end (pcC_le b i)] at q2
  cases q2
theorem ChPre.run {d : Dk} {b l : List Int} {p : Nat} (h : ChPre d b l p) : ∀ (k f : Nat), k ≤ l.length → k ≤ p →
    ∃ bs, rdG d (f + k) [] [] (l.getD 0 0) b.length = rdG d f bs (l.take k) (l.getD k 0) (b.length - 56 * k)
  | 0, f, _, _ => ⟨[], rfl⟩
  | k + 1, f, hk, hkp => by
    obtain ⟨bs, e⟩ := h.run k (f + 1) (by omega) (by omega)
    have hi : k < l.length := hk
    have lb : 56 * k < b.length := cntC_lt.1 (by rw [← h.len]; exact hi)
    have st := h.step hi hkp
    rw [show f + (k + 1) = f + 1 + k by omega, e, getD_at hi, rdG_go (by omega) st, h.rd k hi hkp, secC_next (pcC_le b k) _ (h.nx k).1 (h.nx k).2]
    exact ⟨_, by rw [List.take_succ_eq_append_getElem hi, show b.length - 56 * k - 56 = b.length - 56 * (k + 1) by omega]; rfl⟩
/-- A sector whose sum is wrong is met, at itself. -/
theorem ChPre.met {d : Dk} {b l : List Int} {p : Nat} (h : ChPre d b l p) (hp : p < l.length) (hs : sumOkC (readL d l[p]) = false) (h0 : 1 ≤ b.length) (h1 : b.length ≤ 65542) : rdC d (l.getD 0 0) (b.length : Nat) = ([], [], 5, l[p]) := by
  obtain ⟨r1, r2, r3⟩ := h.rng hp
  have lb : 56 * p < b.length := cntC_lt.1 (by rw [← h.len]; exact hp)
  have st : secE d (l.take p) l[p] (b.length - 56 * p) = 5 := by
    rw [secE_of (not_take (apC_iff.1 h.ap).2 hp) r1 r3]
    unfold rsE
    rw [if_neg (by rw [h.up]; decide), hs, if_pos rfl]
  obtain ⟨bs, e⟩ := h.run p (l.length - p + 1) (by omega) (Nat.le_refl _)
  unfold rdC
  rw [if_pos ⟨by omega, by omega⟩, Int.toNat_natCast, ← h.len, show l.length + 1 = l.length - p + 1 + p by omega, e, getD_at hp, rdG_bad (by omega) (by rw [st]; decide), st]

/-! What is sure behind a flush. -/
theorem layAll_one : ∀ (p : List Wr) (k0 k : Nat) (h : k < p.length) (s : Nat → List Int), (p.map (·.at)).Nodup → (∀ x ∈ p, x.by.length = 64 ∧ (s x.at).length = 64) → layAll (fun _ => 64) k0 p s p[k].at = p[k].by
  | x :: r, k0, 0, _, s, hn, hl => by
    rw [List.map_cons, List.nodup_cons] at hn
    show layAll (fun _ => 64) k0 (x :: r) s x.at = x.by
    rw [layAll, layAll_other _ _ _ _ _ (fun y hy e => hn.1 (by rw [← e]; exact List.mem_map_of_mem hy)), updS, if_pos rfl]
    exact over_all (hl x (by simp)).1 (hl x (by simp)).2
  | x :: r, k0, k + 1, h, s, hn, hl => by
    rw [List.map_cons, List.nodup_cons] at hn
    have hk : k < r.length := by simpa using h
    show layAll (fun _ => 64) k0 (x :: r) s r[k].at = r[k].by
    rw [layAll]
    refine layAll_one r (k0 + 1) k hk _ hn.2 (fun y hy => ⟨(hl y (by simp [hy])).1, ?_⟩)
    rw [updS, if_neg (fun e => hn.1 (by rw [← e]; exact List.mem_map_of_mem hy))]
    exact (hl y (by simp [hy])).2
/-- The bytes of a disk, one sector turned. -/
theorem secsL_set {s : Nat → List Int} {n k i : Nat} {c : List Int} {v : Int} (hl : ∀ i, i < n → (s i).length = 64) (hk : k < n) (hc : c.length = 64) (hi : i < 64) : (secsL (updS s k c) n).set (64 * k + i) v = secsL (updS s k (c.set i v)) n := by
  have hs := secsL_len hl
  rw [secsL_upd hc hl hk, secsL_upd (by rw [List.length_set]; exact hc) hl hk, List.append_assoc, List.append_assoc]
  rw [List.set_append_right _ _ (by simp [hs]; omega)]
  congr 1
  have e : 64 * k + i - ((secsL s n).take (64 * k)).length = i := by simp [hs]; omega
  rw [e, List.set_append_left _ _ (by omega)]
theorem updS_same (s : Nat → List Int) (k : Nat) : updS s k (s k) = s := by
  funext j
  unfold updS
  split
  · rename_i e; rw [e]
  · rfl
end Go.Proofs.YtgmmgklcndnehaaDoor
