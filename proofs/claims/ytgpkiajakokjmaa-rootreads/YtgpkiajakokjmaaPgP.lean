/- Plain mathematics of layer 18: pages of things, written one behind the other, and read. -/
import Derived.Test.YtgpkiajakokjmaaKdP
namespace Go.Proofs.Ytgpkiajakokjmaa
set_option linter.unusedVariables false
set_option maxRecDepth 4000

section
variable {α : Type} (wr : α → List Int) (ok : α → Bool) (rd : List Int → α × List Int × Int)
/-- What a thing's bytes and its reader promise one another. -/
structure PgT : Prop where
  good : ∀ {l : List Int} {x : α} {r : List Int}, AllB l → rd l = (x, r, 0) → ok x = true ∧ l = wr x ++ r
  back : ∀ {x : α} (r : List Int), ok x = true → rd (wr x ++ r) = (x, r, 0)
  err : ∀ {l : List Int}, AllB l → (rd l).2.2 = 0 ∨ (rd l).2.2 = 3 ∨ (rd l).2.2 = 4
  byt : ∀ {x : α}, ok x = true → AllB (wr x)
def manyB (l : List α) : List Int := l.flatMap wr
/-- So many things, read one behind the other. -/
def manyRd : Nat → List Int → List α → List α × List Int × Int
  | 0, l, acc => (acc, l, 0)
  | n + 1, l, acc => if (rd l).2.2 = 0 then manyRd n (rd l).2.1 (acc ++ [(rd l).1]) else ([], [], (rd l).2.2)
/-- A page's bytes. -/
def pgB (l : List α) : List Int := varL (l.length : Nat) ++ manyB wr l
/-- What is left behind the last thing is a fault. -/
def endP (l : List Int) (e : Int) : Int := if e = 0 then (if l = [] then 0 else 6) else e
/-- What bytes are read as: the things, the fault. -/
def pgRd (most : Int) (b : List Int) : List α × Int :=
  if (upS b 0 most).2.2 = 0 then
    if (upS b 0 most).1 = 0 then ([], 4)
    else if endP (manyRd rd (upS b 0 most).1.toNat (upS b 0 most).2.1 []).2.1 (manyRd rd (upS b 0 most).1.toNat (upS b 0 most).2.1 []).2.2 = 0 then ((manyRd rd (upS b 0 most).1.toNat (upS b 0 most).2.1 []).1, 0)
    else ([], endP (manyRd rd (upS b 0 most).1.toNat (upS b 0 most).2.1 []).2.1 (manyRd rd (upS b 0 most).1.toNat (upS b 0 most).2.1 []).2.2)
  else ([], (upS b 0 most).2.2)
variable {wr ok rd}
theorem many_go {n : Nat} {l r : List Int} {x : α} {acc : List α} (h : rd l = (x, r, 0)) : manyRd rd (n + 1) l acc = manyRd rd n r (acc ++ [x]) := by
  rw [manyRd, h]; exact if_pos rfl
theorem many_bad {n : Nat} {l r : List Int} {x : α} {e : Int} {acc : List α} (h : rd l = (x, r, e)) (he : e ≠ 0) : manyRd rd (n + 1) l acc = ([], [], e) := by
  rw [manyRd, h]; exact if_neg he
theorem many_good (H : PgT wr ok rd) : ∀ (n : Nat) (l r : List Int) (acc L : List α), AllB l → manyRd rd n l acc = (L, r, 0) → ∃ ts, L = acc ++ ts ∧ ts.length = n ∧ (∀ x ∈ ts, ok x = true) ∧ l = manyB wr ts ++ r
  | 0, l, r, acc, L, hb, h => by
    simp only [manyRd, Prod.mk.injEq] at h
    exact ⟨[], by rw [h.1, List.append_nil], rfl, (fun x hx => by cases hx), by rw [← h.2.1]; rfl⟩
  | n + 1, l, r, acc, L, hb, h => by
    obtain ⟨x, r1, e, hx⟩ : ∃ x r1 e, rd l = (x, r1, e) := ⟨_, _, _, rfl⟩
    by_cases he : e = 0
    · subst he
      rw [many_go hx] at h
      obtain ⟨ho, hl⟩ := H.good hb hx
      have hb1 : AllB r1 := by rw [hl] at hb; exact hb.right
      obtain ⟨ts, h1, h2, h3, h4⟩ := many_good H n r1 r (acc ++ [x]) L hb1 h
      refine ⟨x :: ts, by rw [h1]; simp, by simp [h2], ?_, ?_⟩
      · intro y hy
        rcases List.mem_cons.1 hy with rfl | hy
        · exact ho
        · exact h3 y hy
      · rw [hl, h4]
        simp [manyB]
    · rw [many_bad hx he] at h
      simp only [Prod.mk.injEq] at h
      exact absurd h.2.2 he
theorem many_err (H : PgT wr ok rd) : ∀ (n : Nat) (l : List Int) (acc : List α), AllB l → (manyRd rd n l acc).2.2 = 0 ∨ manyRd rd n l acc = ([], [], 3) ∨ manyRd rd n l acc = ([], [], 4)
  | 0, l, acc, hb => .inl rfl
  | n + 1, l, acc, hb => by
    obtain ⟨x, r1, e, hx⟩ : ∃ x r1 e, rd l = (x, r1, e) := ⟨_, _, _, rfl⟩
    by_cases he : e = 0
    · subst he
      rw [many_go hx]
      obtain ⟨ho, hl⟩ := H.good hb hx
      exact many_err H n r1 (acc ++ [x]) (by rw [hl] at hb; exact hb.right)
    · rw [many_bad hx he]
      have q := H.err hb
      rw [hx] at q
      rcases q with q | q | q
      · exact absurd q he
      · have q : e = 3 := q
        rw [q]; exact .inr (.inl rfl)
      · have q : e = 4 := q
        rw [q]; exact .inr (.inr rfl)
theorem many_back (H : PgT wr ok rd) : ∀ (ts : List α) (acc : List α) (more : List Int), (∀ x ∈ ts, ok x = true) → manyRd rd ts.length (manyB wr ts ++ more) acc = (acc ++ ts, more, 0)
  | [], acc, more, _ => by simp [manyRd, manyB]
  | x :: ts, acc, more, h => by
    have e : manyB wr (x :: ts) ++ more = wr x ++ (manyB wr ts ++ more) := by simp [manyB]
    rw [List.length_cons, e, many_go (H.back _ (h x (List.mem_cons_self ..))), many_back H ts (acc ++ [x]) more (fun y hy => h y (List.mem_cons_of_mem _ hy))]
    simp
theorem pg_bad1 {most : Int} {b r : List Int} {v e : Int} (h : upS b 0 most = (v, r, e)) (he : e ≠ 0) : pgRd rd most b = ([], e) := by
  unfold pgRd; rw [h]; exact if_neg he
theorem pg_zero {most : Int} {b r : List Int} (h : upS b 0 most = (0, r, 0)) : pgRd rd most b = ([], 4) := by
  unfold pgRd; rw [h]; rfl
theorem pg_end {most : Int} {b r r2 : List Int} {v e : Int} {L : List α} (h : upS b 0 most = (v, r, 0)) (hv : v ≠ 0) (hm : manyRd rd v.toNat r [] = (L, r2, e)) : pgRd rd most b = if endP r2 e = 0 then (L, 0) else ([], endP r2 e) := by
  unfold pgRd
  rw [h]
  simp only [if_true, if_neg hv]
  rw [hm]
/-- What is written is read. -/
theorem pg_back (H : PgT wr ok rd) {most : Int} {l : List α} (h1 : l ≠ []) (h2 : (l.length : Int) ≤ most) (h3 : most ≤ 18446744073709551615) (ho : ∀ x ∈ l, ok x = true) : pgRd rd most (pgB wr l) = (l, 0) := by
  have hl := List.length_pos_iff.2 h1
  have hu := up_back (l.length : Nat) most (manyB wr l) (by omega) h2 h3
  have hm := many_back H l [] [] ho
  rw [List.append_nil, List.nil_append] at hm
  have hm2 : manyRd rd ((l.length : Nat) : Int).toNat (manyB wr l) [] = (l, [], 0) := by rw [Int.toNat_natCast]; exact hm
  rw [pg_end (rd := rd) (show upS (pgB wr l) 0 most = _ from hu) (by omega) hm2]
  rfl
/-- Whatever is read is what is written so. -/
theorem pg_one (H : PgT wr ok rd) {most : Int} {b : List Int} {l : List α} (hb : AllB b) (h : pgRd rd most b = (l, 0)) : pgB wr l = b ∧ l ≠ [] ∧ (l.length : Int) ≤ most ∧ ∀ x ∈ l, ok x = true := by
  rcases up_cases b most hb with ⟨v, r, hu, v0, v1, hl⟩ | ⟨e, hu, he⟩
  · by_cases hv : v = 0
    · subst hv
      rw [pg_zero hu] at h
      simp at h
    · have hr : AllB r := by rw [hl] at hb; exact hb.right
      obtain ⟨L, r2, e, hm⟩ : ∃ L r2 e, manyRd rd v.toNat r [] = (L, r2, e) := ⟨_, _, _, rfl⟩
      rw [pg_end hu hv hm] at h
      by_cases hp : endP r2 e = 0
      · rw [if_pos hp] at h
        simp only [Prod.mk.injEq, and_true] at h
        subst h
        have he : e = 0 := by
          unfold endP at hp
          by_cases q : e = 0
          · exact q
          · rw [if_neg q] at hp; exact hp
        subst he
        have hr2 : r2 = [] := by
          unfold endP at hp
          rw [if_pos rfl] at hp
          by_cases q : r2 = []
          · exact q
          · rw [if_neg q] at hp; simp at hp
        subst hr2
        obtain ⟨ts, q1, q2, q3, q4⟩ := many_good H v.toNat r [] [] L hr hm
        rw [List.nil_append] at q1
        subst q1
        rw [List.append_nil] at q4
        have e2 : ((L.length : Nat) : Int) = v := by omega
        refine ⟨?_, ?_, by omega, q3⟩
        · unfold pgB
          rw [e2, ← q4, ← hl]
        · intro q
          rw [q] at q2
          simp at q2
          omega
      · rw [if_neg hp] at h
        simp only [Prod.mk.injEq] at h
        exact absurd h.2 hp
  · rw [pg_bad1 hu (by omega)] at h
    simp only [Prod.mk.injEq] at h
    omega
theorem pg_byte (H : PgT wr ok rd) {l : List α} (ho : ∀ x ∈ l, ok x = true) : AllB (manyB wr l) := by
  intro x hx
  obtain ⟨y, hy, hxy⟩ := List.mem_flatMap.1 hx
  exact H.byt (ho y hy) x hxy
end

/-- A page of a list. -/
def pgAt {α : Type} (per : Nat) (l : List α) (i : Nat) : List α := (l.drop (per * i)).take per
theorem pg_take {α : Type} (per : Nat) (l : List α) (i : Nat) : l.take (per * i) ++ pgAt per l i = l.take (per * (i + 1)) := by
  unfold pgAt
  rw [Nat.mul_add, Nat.mul_one, List.take_add]
/-- How many pages there are. -/
def cntP (n per : Int) : Int := if n < 1 ∨ per < 1 then 0 else (n - 1) / per + 1
theorem cnt_in {n per i : Nat} (hp : 0 < per) : (i : Int) < cntP n per ↔ per * i < n := by
  unfold cntP
  by_cases h : (n : Int) < 1 ∨ (per : Int) < 1
  · rw [if_pos h]
    have : n = 0 := by omega
    subst this
    omega
  · rw [if_neg h]
    have h1 : 1 ≤ n := by omega
    have e : ((n : Int) - 1) / (per : Int) = (((n - 1) / per : Nat) : Int) := by
      rw [show (n : Int) - 1 = ((n - 1 : Nat) : Int) by omega]
      exact (Int.natCast_ediv _ _).symm
    rw [e]
    have q := Nat.le_div_iff_mul_le (x := i) (y := n - 1) hp
    rw [Nat.mul_comm] at q
    omega

/-- A row of handles (as in AuC). -/
structure HRw where
  gen : Int
  live : Bool
  kind : Int
  pl : Int
def hz : HRw := ⟨0, false, 0, 0⟩
/-- May a row be written? -/
def mayR (x : HRw) : Bool := if x.live = true then decide (1 ≤ x.gen ∧ x.gen ≤ 65535 ∧ 0 ≤ x.kind ∧ x.kind ≤ 63 ∧ 0 ≤ x.pl ∧ x.pl ≤ 1048575) else decide (0 ≤ x.gen ∧ x.gen ≤ 65535 ∧ x.kind = 0 ∧ x.pl = 0)
def rowB (x : HRw) : List Int := if x.live = true then varL (2 * x.gen + 1) ++ (varL x.kind ++ varL x.pl) else varL (2 * x.gen)
/-- What a row is read as. -/
def rowRd (l : List Int) : HRw × List Int × Int :=
  if (upS l 0 131071).2.2 = 0 then
    if (upS l 0 131071).1 = 1 then (hz, [], 4)
    else if (upS l 0 131071).1 % 2 = 1 then
      if (upS (upS l 0 131071).2.1 0 63).2.2 = 0 then
        if (upS (upS (upS l 0 131071).2.1 0 63).2.1 0 1048575).2.2 = 0 then (⟨(upS l 0 131071).1 / 2, true, (upS (upS l 0 131071).2.1 0 63).1, (upS (upS (upS l 0 131071).2.1 0 63).2.1 0 1048575).1⟩, (upS (upS (upS l 0 131071).2.1 0 63).2.1 0 1048575).2.1, 0)
        else (hz, [], (upS (upS (upS l 0 131071).2.1 0 63).2.1 0 1048575).2.2)
      else (hz, [], (upS (upS l 0 131071).2.1 0 63).2.2)
    else (⟨(upS l 0 131071).1 / 2, false, 0, 0⟩, (upS l 0 131071).2.1, 0)
  else (hz, [], (upS l 0 131071).2.2)
theorem row_bad1 {l r : List Int} {g e : Int} (h : upS l 0 131071 = (g, r, e)) (he : e ≠ 0) : rowRd l = (hz, [], e) := by unfold rowRd; rw [h]; exact if_neg he
theorem row_one {l r : List Int} (h : upS l 0 131071 = (1, r, 0)) : rowRd l = (hz, [], 4) := by unfold rowRd; rw [h]; rfl
theorem row_dead {l r : List Int} {g : Int} (h : upS l 0 131071 = (g, r, 0)) (h1 : ¬ g % 2 = 1) : rowRd l = (⟨g / 2, false, 0, 0⟩, r, 0) := by
  have h0 : ¬ g = 1 := fun e => h1 (by rw [e]; rfl)
  unfold rowRd; rw [h]; simp only [if_true, if_neg h0, if_neg h1]
theorem row_bad2 {l r r2 : List Int} {g k e : Int} (h : upS l 0 131071 = (g, r, 0)) (h0 : ¬ g = 1) (h1 : g % 2 = 1) (h2 : upS r 0 63 = (k, r2, e)) (he : e ≠ 0) : rowRd l = (hz, [], e) := by
  unfold rowRd; rw [h]; simp only [if_true, if_neg h0, if_pos h1]; rw [h2]; exact if_neg he
theorem row_bad3 {l r r2 r3 : List Int} {g k a e : Int} (h : upS l 0 131071 = (g, r, 0)) (h0 : ¬ g = 1) (h1 : g % 2 = 1) (h2 : upS r 0 63 = (k, r2, 0)) (h3 : upS r2 0 1048575 = (a, r3, e)) (he : e ≠ 0) : rowRd l = (hz, [], e) := by
  unfold rowRd; rw [h]; simp only [if_true, if_neg h0, if_pos h1]; rw [h2]; simp only [if_true]; rw [h3]; exact if_neg he
theorem row_ok {l r r2 r3 : List Int} {g k a : Int} (h : upS l 0 131071 = (g, r, 0)) (h0 : ¬ g = 1) (h1 : g % 2 = 1) (h2 : upS r 0 63 = (k, r2, 0)) (h3 : upS r2 0 1048575 = (a, r3, 0)) : rowRd l = (⟨g / 2, true, k, a⟩, r3, 0) := by
  unfold rowRd; rw [h]; simp only [if_true, if_neg h0, if_pos h1]; rw [h2]; simp only [if_true]; rw [h3]; rfl
theorem may_live {g k a : Int} : mayR ⟨g, true, k, a⟩ = true ↔ (1 ≤ g ∧ g ≤ 65535 ∧ 0 ≤ k ∧ k ≤ 63 ∧ 0 ≤ a ∧ a ≤ 1048575) := by
  unfold mayR; rw [if_pos rfl]; exact decide_eq_true_iff
theorem may_dead {g k a : Int} : mayR ⟨g, false, k, a⟩ = true ↔ (0 ≤ g ∧ g ≤ 65535 ∧ k = 0 ∧ a = 0) := by
  unfold mayR; rw [if_neg (by simp)]; exact decide_eq_true_iff
theorem rowT : PgT rowB mayR rowRd where
  good := by
    intro l x r hb h
    rcases up_cases l 131071 hb with ⟨g, r1, hu, g0, g1, hl⟩ | ⟨e, hu, he⟩
    · have hr1 : AllB r1 := by rw [hl] at hb; exact hb.right
      by_cases h1 : g % 2 = 1
      · by_cases h0 : g = 1
        · subst h0
          rw [row_one hu] at h
          simp at h
        · rcases up_cases r1 63 hr1 with ⟨k, r2, hk, k0, k1, hl2⟩ | ⟨e, hk, he⟩
          · have hr2 : AllB r2 := by rw [hl2] at hr1; exact hr1.right
            rcases up_cases r2 1048575 hr2 with ⟨a, r3, ha, a0, a1, hl3⟩ | ⟨e, ha, he⟩
            · rw [row_ok hu h0 h1 hk ha] at h
              simp only [Prod.mk.injEq, and_true] at h
              obtain ⟨rfl, rfl⟩ := h
              refine ⟨may_live.2 (by omega), ?_⟩
              rw [hl, hl2, hl3]
              show _ = (if true = true then _ else _) ++ _
              rw [if_pos rfl]
              show varL g ++ (varL k ++ (varL a ++ r3)) = (varL (2 * (g / 2) + 1) ++ (varL k ++ varL a)) ++ r3
              rw [show 2 * (g / 2) + 1 = g by omega]
              simp
            · rw [row_bad3 hu h0 h1 hk ha (by omega)] at h
              simp only [Prod.mk.injEq] at h
              omega
          · rw [row_bad2 hu h0 h1 hk (by omega)] at h
            simp only [Prod.mk.injEq] at h
            omega
      · rw [row_dead hu h1] at h
        simp only [Prod.mk.injEq, and_true] at h
        obtain ⟨rfl, rfl⟩ := h
        refine ⟨may_dead.2 (by omega), ?_⟩
        rw [hl]
        show _ = (if false = true then _ else _) ++ _
        rw [if_neg (by decide)]
        show varL g ++ r1 = varL (2 * (g / 2)) ++ r1
        rw [show 2 * (g / 2) = g by omega]
    · rw [row_bad1 hu (by omega)] at h
      simp only [Prod.mk.injEq] at h
      omega
  back := by
    intro x r h
    obtain ⟨g, lv, k, a⟩ := x
    cases lv
    · obtain ⟨q0, q1, rfl, rfl⟩ := may_dead.1 h
      have e : rowB ⟨g, false, 0, 0⟩ = varL (2 * g) := if_neg (by simp)
      rw [e, row_dead (up_back (2 * g) 131071 r (by omega) (by omega) (by omega)) (by omega), show 2 * g / 2 = g by omega]
    · obtain ⟨q0, q1, q2, q3, q4, q5⟩ := may_live.1 h
      have e : rowB ⟨g, true, k, a⟩ = varL (2 * g + 1) ++ (varL k ++ varL a) := if_pos rfl
      rw [e, List.append_assoc, List.append_assoc, row_ok (up_back (2 * g + 1) 131071 _ (by omega) (by omega) (by omega)) (by omega) (by omega) (up_back k 63 _ q2 q3 (by omega)) (up_back a 1048575 r q4 q5 (by omega)), show (2 * g + 1) / 2 = g by omega]
  err := by
    intro l hb
    rcases up_cases l 131071 hb with ⟨g, r1, hu, g0, g1, hl⟩ | ⟨e, hu, he⟩
    · have hr1 : AllB r1 := by rw [hl] at hb; exact hb.right
      by_cases h1 : g % 2 = 1
      · by_cases h0 : g = 1
        · subst h0
          rw [row_one hu]
          exact .inr (.inr rfl)
        · rcases up_cases r1 63 hr1 with ⟨k, r2, hk, k0, k1, hl2⟩ | ⟨e, hk, he⟩
          · have hr2 : AllB r2 := by rw [hl2] at hr1; exact hr1.right
            rcases up_cases r2 1048575 hr2 with ⟨a, r3, ha, a0, a1, hl3⟩ | ⟨e, ha, he⟩
            · rw [row_ok hu h0 h1 hk ha]; exact .inl rfl
            · rw [row_bad3 hu h0 h1 hk ha (by omega)]; exact .inr he
          · rw [row_bad2 hu h0 h1 hk (by omega)]; exact .inr he
      · rw [row_dead hu h1]; exact .inl rfl
    · rw [row_bad1 hu (by omega)]; exact .inr he
  byt := by
    intro x h
    obtain ⟨g, lv, k, a⟩ := x
    cases lv
    · obtain ⟨q0, q1, rfl, rfl⟩ := may_dead.1 h
      have e : rowB ⟨g, false, 0, 0⟩ = varL (2 * g) := if_neg (by simp)
      rw [e]
      exact varL_byte _ (by omega) (by omega)
    · obtain ⟨q0, q1, q2, q3, q4, q5⟩ := may_live.1 h
      have e : rowB ⟨g, true, k, a⟩ = varL (2 * g + 1) ++ (varL k ++ varL a) := if_pos rfl
      rw [e]
      exact AllB.append (varL_byte _ (by omega) (by omega)) (AllB.append (varL_byte _ q2 (by omega)) (varL_byte _ q4 (by omega)))

/-- Kinds, as pairs of a size and fields. -/
def kdB (k : Int × List Int) : List Int := bytesK k.1 k.2
def kdOk (k : Int × List Int) : Bool := decide (checkK k.1 k.2 = 0)
def kdRd (l : List Int) : (Int × List Int) × List Int × Int := (((readK l).1, (readK l).2.1), (readK l).2.2.1, (readK l).2.2.2)
theorem kindT : PgT kdB kdOk kdRd where
  good := by
    intro l x r hb h
    obtain ⟨s, ps, rest, e, hk⟩ : ∃ s ps rest e, readK l = (s, ps, rest, e) := ⟨_, _, _, _, rfl⟩
    unfold kdRd at h
    rw [hk] at h
    simp only [Prod.mk.injEq] at h
    obtain ⟨rfl, rfl, rfl⟩ := h
    rcases read_good hb hk with ⟨_, q1, q2⟩ | ⟨q, _⟩
    · exact ⟨decide_eq_true q1, q2⟩
    · omega
  back := by
    intro x r h
    have q := read_back (s := x.1) (ps := x.2) r (of_decide_eq_true h)
    unfold kdRd kdB
    rw [q]
  err := by
    intro l hb
    obtain ⟨s, ps, rest, e, hk⟩ : ∃ s ps rest e, readK l = (s, ps, rest, e) := ⟨_, _, _, _, rfl⟩
    unfold kdRd
    rw [hk]
    rcases read_good hb hk with ⟨q, _⟩ | ⟨q, _⟩
    · exact .inl q
    · exact .inr q
  byt := fun {x} _ => bytes_byte x.1 x.2
end Go.Proofs.Ytgpkiajakokjmaa
