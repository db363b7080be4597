/- Plain mathematics of layer 5: sectors, what is pending, what a crash keeps. -/
import Derived.Test.YtofmicbhheebiaaRows
namespace Go.Proofs.Ytofmicbhheebiaa
set_option linter.unusedVariables false
set_option maxRecDepth 4000

def AllB (l : List Int) : Prop := ∀ x ∈ l, 0 ≤ x ∧ x ≤ 255

theorem AllB.append {a b : List Int} (h : AllB a) (k : AllB b) : AllB (a ++ b) := by
  intro x hx; rcases List.mem_append.1 hx with e | e
  · exact h x e
  · exact k x e
theorem AllB.take {a : List Int} (h : AllB a) (n : Nat) : AllB (a.take n) := fun x hx => h x (List.mem_of_mem_take hx)
theorem AllB.drop {a : List Int} (h : AllB a) (n : Nat) : AllB (a.drop n) := fun x hx => h x (List.mem_of_mem_drop hx)
theorem AllB.at {a : List Int} (h : AllB a) (k : Nat) : 0 ≤ a.getD k 0 ∧ a.getD k 0 ≤ 255 := by
  by_cases hk : k < a.length
  · rw [List.getD_eq_getElem?_getD, List.getElem?_eq_getElem hk]; exact h _ (List.getElem_mem hk)
  · rw [List.getD_eq_getElem?_getD, List.getElem?_eq_none (by omega)]; simp

/-- A sector of noughts. -/
def zeros : List Int := List.replicate 64 0
theorem zeros_len : zeros.length = 64 := by simp [zeros]
theorem zeros_allB : AllB zeros := by intro x hx; simp [zeros] at hx; omega

/-- So many bytes of b laid over s. -/
def over (k : Nat) (b s : List Int) : List Int := b.take k ++ s.drop k
theorem over_len {k : Nat} {b s : List Int} (hb : b.length = 64) (hs : s.length = 64) : (over k b s).length = 64 := by simp [over]; omega
theorem over_allB {k : Nat} {b s : List Int} (hb : AllB b) (hs : AllB s) : AllB (over k b s) := (hb.take k).append (hs.drop k)
theorem over_all {b s : List Int} (hb : b.length = 64) (hs : s.length = 64) : over 64 b s = b := by
  simp [over, List.take_of_length_le (Nat.le_of_eq hb), List.drop_of_length_le (Nat.le_of_eq hs)]

/-- A sector that begins with b. -/
def secL (b : List Int) : List Int := b ++ zeros.drop b.length
theorem secL_len {b : List Int} (h : b.length ≤ 64) : (secL b).length = 64 := by simp [secL, zeros_len]; omega
theorem secL_allB {b : List Int} (h : AllB b) : AllB (secL b) := h.append (zeros_allB.drop _)
theorem secL_full {b : List Int} (h : b.length = 64) : secL b = b := by simp [secL, h, List.drop_of_length_le (Nat.le_of_eq zeros_len)]
theorem secL_nil : secL [] = zeros := rfl

/-- A write that isn't sure. -/
structure Wr where
  «at» : Nat
  «by» : List Int

/-- A disk. -/
structure Dk where
  n : Nat
  sure : Nat → List Int
  pend : List Wr
  left : Int
  down : Bool
  ops : Nat

/-- All sectors have 64 bytes. -/
structure DkOk (d : Dk) : Prop where
  few : d.n ≤ 65536
  sec : ∀ i, i < d.n → (d.sure i).length = 64 ∧ AllB (d.sure i)
  wr : ∀ x ∈ d.pend, x.at < d.n ∧ x.by.length = 64 ∧ AllB x.by
  left : -9223372036854775808 ≤ d.left ∧ d.left ≤ 9223372036854775807

def newD (n : Nat) : Dk := ⟨n, fun _ => zeros, [], 0, false, 0⟩
theorem newD_ok {n : Nat} (h : n ≤ 65536) : DkOk (newD n) := ⟨h, fun _ _ => ⟨zeros_len, zeros_allB⟩, fun x hx => by (cases hx), by simp [newD]⟩

def updS (s : Nat → List Int) (i : Nat) (l : List Int) : Nat → List Int := fun j => if j = i then l else s j

/-- Each write, in its order, laid over what is sure. -/
def layAll (keep : Nat → Nat) : Nat → List Wr → (Nat → List Int) → Nat → List Int
  | _, [], s => s
  | k, x :: r, s => layAll keep (k + 1) r (updS s x.at (over (keep k) x.by (s x.at)))

theorem layAll_append (keep : Nat → Nat) : ∀ (a b : List Wr) (k : Nat) (s : Nat → List Int), layAll keep k (a ++ b) s = layAll keep (k + a.length) b (layAll keep k a s)
  | [], b, k, s => rfl
  | x :: a, b, k, s => by
    rw [List.cons_append, layAll, layAll, layAll_append keep a b, List.length_cons]
    congr 1; omega

theorem layAll_step (keep : Nat → Nat) (p : List Wr) (k : Nat) (h : k < p.length) (s : Nat → List Int) :
    layAll keep 0 (p.take (k + 1)) s = updS (layAll keep 0 (p.take k) s) p[k].at (over (keep k) p[k].by (layAll keep 0 (p.take k) s p[k].at)) := by
  rw [List.take_succ_eq_append_getElem h, layAll_append]
  have : (p.take k).length = k := by simp; omega
  rw [this, Nat.zero_add]
  rfl

theorem layAll_ok {n : Nat} (keep : Nat → Nat) : ∀ (p : List Wr) (k : Nat) (s : Nat → List Int), (∀ i, i < n → (s i).length = 64 ∧ AllB (s i)) → (∀ x ∈ p, x.at < n ∧ x.by.length = 64 ∧ AllB x.by) → ∀ i, i < n → (layAll keep k p s i).length = 64 ∧ AllB (layAll keep k p s i)
  | [], _, _, hs, _ => hs
  | x :: r, k, s, hs, hp => by
    rw [layAll]
    refine layAll_ok keep r (k + 1) _ ?_ (fun y hy => hp y (by simp [hy]))
    intro i hi
    have hx := hp x (by simp)
    unfold updS
    split
    · exact ⟨over_len hx.2.1 (hs _ hx.1).1, over_allB hx.2.2 (hs _ hx.1).2⟩
    · exact hs i hi

/-- A sector that no write is of stays. -/
theorem layAll_other (keep : Nat → Nat) : ∀ (p : List Wr) (k : Nat) (s : Nat → List Int) (i : Nat), (∀ x ∈ p, x.at ≠ i) → layAll keep k p s i = s i
  | [], _, _, _, _ => rfl
  | x :: r, k, s, i, h => by
    rw [layAll, layAll_other keep r (k + 1) _ i (fun y hy => h y (by simp [hy]))]
    exact if_neg (fun e => h x (by simp) e.symm)

/-- What is written last of a sector. -/
def lastB (p : List Wr) (i : Nat) (s : List Int) : List Int := p.foldl (fun out x => if x.at = i then x.by else out) s
theorem lastB_snoc (p : List Wr) (x : Wr) (i : Nat) (s : List Int) : lastB (p ++ [x]) i s = if x.at = i then x.by else lastB p i s := by simp [lastB]
theorem lastB_take (p : List Wr) (k : Nat) (h : k < p.length) (i : Nat) (s : List Int) : lastB (p.take (k + 1)) i s = if p[k].at = i then p[k].by else lastB (p.take k) i s := by
  rw [List.take_succ_eq_append_getElem h, lastB_snoc]
theorem lastB_ok {n : Nat} : ∀ (p : List Wr) (i : Nat) (s : List Int), (s.length = 64 ∧ AllB s) → (∀ x ∈ p, x.at < n ∧ x.by.length = 64 ∧ AllB x.by) → (lastB p i s).length = 64 ∧ AllB (lastB p i s)
  | [], _, _, hs, _ => hs
  | x :: r, i, s, hs, hp => by
    have : lastB (x :: r) i s = lastB r i (if x.at = i then x.by else s) := rfl
    rw [this]
    refine lastB_ok r i _ ?_ (fun y hy => hp y (by simp [hy]))
    split
    · exact (hp x (by simp)).2
    · exact hs

/-- Where a sector's last write stands. -/
def Newest (g : Int → Option Nat) (p : List Wr) : Prop := ∀ i : Nat, (g i = none ∧ ∀ s, lastB p i s = s) ∨ ∃ k, ∃ h : k < p.length, g i = some k ∧ ∀ s, lastB p i s = p[k].by
theorem newest_none : Newest (fun _ => none) [] := fun i => .inl ⟨rfl, fun _ => rfl⟩
theorem Newest.snoc {g : Int → Option Nat} {p : List Wr} (h : Newest g p) (x : Wr) : Newest (fun i => if i = (x.at : Int) then some p.length else g i) (p ++ [x]) := by
  intro i
  by_cases e : (i : Int) = (x.at : Int)
  · refine .inr ⟨p.length, by simp, by simp [e], fun s => ?_⟩
    rw [lastB_snoc, if_pos (by omega)]; simp
  · have e' : ¬ x.at = i := by omega
    rcases h i with ⟨h1, h2⟩ | ⟨k, hk, h1, h2⟩
    · exact .inl ⟨by simp [e, h1], fun s => by rw [lastB_snoc, if_neg e', h2]⟩
    · refine .inr ⟨k, by simp; omega, by simp [e, h1], fun s => ?_⟩
      rw [lastB_snoc, if_neg e', h2, List.getElem_append_left hk]

def workD (d : Dk) : Dk := if d.left = 1 then { d with left := 0, down := true } else if 1 < d.left then { d with left := d.left - 1, ops := d.ops + 1 } else { d with ops := d.ops + 1 }
def workE (d : Dk) : Int := if d.left = 1 then 14 else 0
theorem workD_ok {d : Dk} (h : DkOk d) : DkOk (workD d) := by
  have := h.left
  unfold workD
  split
  · exact ⟨h.few, h.sec, h.wr, by simp⟩
  · split
    · exact ⟨h.few, h.sec, h.wr, by show _ ∧ _; simp only; omega⟩
    · exact ⟨h.few, h.sec, h.wr, h.left⟩
theorem workD_ops (d : Dk) : (workD d).ops ≤ d.ops + 1 := by unfold workD; split <;> (try split) <;> simp
theorem workD_n (d : Dk) : (workD d).n = d.n := by unfold workD; split <;> (try split) <;> rfl
theorem workD_pend (d : Dk) : (workD d).pend = d.pend := by unfold workD; split <;> (try split) <;> rfl
theorem workD_sure (d : Dk) : (workD d).sure = d.sure := by unfold workD; split <;> (try split) <;> rfl

/-- Why nothing can be done with a sector. -/
def closedE (d : Dk) (i : Int) : Int := if d.down = true then 14 else if 0 ≤ i ∧ i < d.n then 0 else 2
def deadE (d : Dk) : Int := if d.down = true then 14 else 0
theorem closedE_zero {d : Dk} {i : Int} : closedE d i = 0 ↔ d.down = false ∧ 0 ≤ i ∧ i < d.n := by
  unfold closedE
  cases d.down <;> simp

def pushD (d : Dk) (i : Nat) (l : List Int) : Dk := { d with pend := d.pend ++ [⟨i, secL l⟩] }
theorem pushD_ok {d : Dk} {i : Nat} {l : List Int} (h : DkOk d) (hi : i < d.n) (hl : l.length ≤ 64) (hb : AllB l) : DkOk (pushD d i l) :=
  ⟨h.few, h.sec, fun x hx => by
    rcases List.mem_append.1 hx with e | e
    · exact h.wr x e
    · simp at e; subst e; exact ⟨hi, secL_len hl, secL_allB hb⟩, h.left⟩

def writeE (d : Dk) (i : Int) (l : List Int) : Int := if closedE d i = 0 then (if 64 < l.length then 6 else workE d) else closedE d i
def writeD (d : Dk) (i : Int) (l : List Int) : Dk := if closedE d i = 0 ∧ l.length ≤ 64 then workD (pushD d i.toNat l) else d
theorem writeD_ok {d : Dk} {i : Int} {l : List Int} (h : DkOk d) (hb : AllB l) : DkOk (writeD d i l) := by
  unfold writeD
  split
  · rename_i hc
    have := closedE_zero.1 hc.1
    exact workD_ok (pushD_ok h (by omega) hc.2 hb)
  · exact h

def settleD (keep : Nat → Nat) (d : Dk) : Dk := { d with sure := layAll keep 0 d.pend d.sure, pend := [] }
theorem settleD_ok {keep : Nat → Nat} {d : Dk} (h : DkOk d) : DkOk (settleD keep d) :=
  ⟨h.few, layAll_ok keep d.pend 0 d.sure h.sec h.wr, fun x hx => by (cases hx), h.left⟩

def flushE (d : Dk) : Int := if d.down = true then 14 else workE d
def flushD (d : Dk) : Dk := if d.down = true then d else if d.left = 1 then workD d else settleD (fun _ => 64) (workD d)
theorem flushD_ok {d : Dk} (h : DkOk d) : DkOk (flushD d) := by
  unfold flushD
  split
  · exact h
  · split
    · exact workD_ok h
    · exact settleD_ok (workD_ok h)

def armD (d : Dk) (n : Int) : Dk := if d.down = true then d else { d with left := n }
theorem armD_ok {d : Dk} {n : Int} (h : DkOk d) (hn : -9223372036854775808 ≤ n ∧ n ≤ 9223372036854775807) : DkOk (armD d n) := by
  unfold armD; split
  · exact h
  · exact ⟨h.few, h.sec, h.wr, hn⟩

/-- How many bytes of the k-th write a crash keeps. -/
def keepN (keeps : List Int) (k : Nat) : Nat := (max (min (keeps.getD k 0) 64) 0).toNat
theorem keepN_le (keeps : List Int) (k : Nat) : keepN keeps k ≤ 64 := by unfold keepN; omega
def crashD (d : Dk) (keeps : List Int) : Dk := { settleD (keepN keeps) d with left := 0, down := false }
theorem crashD_ok {d : Dk} {keeps : List Int} (h : DkOk d) : DkOk (crashD d keeps) :=
  ⟨h.few, (settleD_ok (keep := keepN keeps) h).sec, fun x hx => by (cases hx), by simp [crashD]⟩

def readL (d : Dk) (i : Int) : List Int := if closedE d i = 0 then lastB d.pend i.toNat (d.sure i.toNat) else []
theorem readL_ok {d : Dk} {i : Int} (h : DkOk d) (hc : closedE d i = 0) : (readL d i).length = 64 ∧ AllB (readL d i) := by
  have := closedE_zero.1 hc
  rw [readL, if_pos hc]
  exact lastB_ok d.pend _ _ (h.sec _ (by omega)) h.wr

/-- All sectors, one behind the other. -/
def secsL (s : Nat → List Int) : Nat → List Int
  | 0 => []
  | n + 1 => secsL s n ++ s n
theorem secsL_len {s : Nat → List Int} : ∀ {n : Nat}, (∀ i, i < n → (s i).length = 64) → (secsL s n).length = 64 * n
  | 0, _ => rfl
  | n + 1, h => by rw [secsL, List.length_append, secsL_len (fun i hi => h i (by omega)), h n (by omega)]; omega
theorem secsL_allB {s : Nat → List Int} : ∀ {n : Nat}, (∀ i, i < n → AllB (s i)) → AllB (secsL s n)
  | 0, _ => by intro x hx; cases hx
  | n + 1, h => (secsL_allB (fun i hi => h i (by omega))).append (h n (by omega))
theorem secsL_congr {s t : Nat → List Int} : ∀ {n : Nat}, (∀ i, i < n → s i = t i) → secsL s n = secsL t n
  | 0, _ => rfl
  | n + 1, h => by rw [secsL, secsL, secsL_congr (fun i hi => h i (by omega)), h n (by omega)]
theorem secsL_take {s : Nat → List Int} {k : Nat} : ∀ {n : Nat}, (∀ i, i < n → (s i).length = 64) → k ≤ n → (secsL s n).take (64 * k) = secsL s k
  | 0, _, hk => by obtain rfl : k = 0 := by omega
                   rfl
  | n + 1, h, hk => by
    rw [secsL]
    by_cases e : k = n + 1
    · subst e
      rw [List.take_of_length_le, secsL]
      rw [List.length_append, secsL_len (fun i hi => h i (by omega)), h n (by omega)]; omega
    · rw [List.take_append_of_le_length (by rw [secsL_len (fun i hi => h i (by omega))]; omega)]
      exact secsL_take (fun i hi => h i (by omega)) (by omega)
/-- A sector's bytes among all. -/
theorem secsL_part {s : Nat → List Int} {n k : Nat} (h : ∀ i, i < n → (s i).length = 64) (hk : k < n) : ((secsL s n).drop (64 * k)).take 64 = s k := by
  have h1 := secsL_take (k := k + 1) h (by omega)
  rw [List.take_drop, show 64 * k + 64 = 64 * (k + 1) from by omega, h1, secsL, List.drop_left' (secsL_len (fun i hi => h i (by omega)))]
theorem secsL_upd {s : Nat → List Int} {k : Nat} {l : List Int} (hl : l.length = 64) : ∀ {n : Nat}, (∀ i, i < n → (s i).length = 64) → k < n → secsL (updS s k l) n = (secsL s n).take (64 * k) ++ l ++ (secsL s n).drop (64 * k + 64)
  | 0, _, hk => by omega
  | n + 1, h, hk => by
    have hn := secsL_len (n := n) (fun i hi => h i (by omega))
    by_cases e : k = n
    · subst e
      have e1 : secsL (updS s k l) k = secsL s k := secsL_congr (fun i hi => if_neg (by omega))
      rw [secsL, secsL, List.take_append_of_le_length (by omega), List.take_of_length_le (by omega), List.drop_of_length_le (by rw [List.length_append, hn, h k (by omega)]; omega), List.append_nil, e1]
      simp [updS]
    · rw [secsL, secsL, secsL_upd hl (fun i hi => h i (by omega)) (by omega), List.take_append_of_le_length (by omega), List.drop_append_of_le_length (by omega)]
      simp [updS, Ne.symm e]

def imageL (d : Dk) : List Int := secsL d.sure d.n
theorem imageL_len {d : Dk} (h : DkOk d) : (imageL d).length = 64 * d.n := secsL_len (fun i hi => (h.sec i hi).1)
theorem imageL_allB {d : Dk} (h : DkOk d) : AllB (imageL d) := secsL_allB (fun i hi => (h.sec i hi).2)

/-- The disk that some bytes are. -/
def layD (l : List Int) : Dk := ⟨l.length / 64, fun i => (l.drop (64 * i)).take 64, [], 0, false, 0⟩
theorem secsL_lay (l : List Int) : ∀ n, 64 * n ≤ l.length → secsL (fun i => (l.drop (64 * i)).take 64) n = l.take (64 * n)
  | 0, _ => by simp [secsL]
  | n + 1, h => by
    rw [secsL, secsL_lay l n (by omega), show 64 * (n + 1) = 64 * n + 64 from by omega, List.take_add]
theorem imageL_lay {l : List Int} (h : l.length % 64 = 0) : imageL (layD l) = l := by
  show secsL (fun i => (l.drop (64 * i)).take 64) (l.length / 64) = l
  rw [secsL_lay l _ (by omega), List.take_of_length_le (by omega)]
theorem layD_ok {l : List Int} (hb : AllB l) (h : l.length ≤ 64 * 65536) : DkOk (layD l) :=
  ⟨by show l.length / 64 ≤ 65536; omega, fun i hi => by
    have : i < l.length / 64 := hi
    exact ⟨by show ((l.drop (64 * i)).take 64).length = 64; simp; omega, (hb.drop _).take _⟩, fun x hx => by (cases hx), by simp [layD]⟩
end Go.Proofs.Ytofmicbhheebiaa
