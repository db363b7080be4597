/- The document's numbers and reader, of layer 1. -/
import Derived.Test.YtgpkiajakokjmaaKdC
namespace Go.Proofs.Ytgpkiajakokjmaa
open Go.RowKit
set_option linter.unusedVariables false
set_option maxRecDepth 4000

def RVarAt (n : Int) (B : Nat) (w wr : World) (a : Option Addr) (cap f : Nat) (L : List Int) (m : Int) : Prop :=
  varL n = L ++ digs f m ∧ 0 ≤ m ∧ m ≤ 18446744073709551615 ∧ m < 128 ^ (f + 1) ∧ L.length + f = 9 ∧ OwnsB wr B a L cap ∧ Below B w wr
set_option maxHeartbeats 1000000 in
theorem rvarw_any (n : Int) (w : World) (h0 : 0 ≤ n) (h1 : n ≤ 18446744073709551615) :
    Calls Try.prog 27 #[.int .u64 n] w fun e w' => ∃ a cap, e = .returned (.slice a (varL n).length cap) ∧ OwnsB w' w.heap.size a (varL n) cap ∧ Below w.heap.size w w' := by
  obtain ⟨i0, hi, hz0, hz1, hz2⟩ := info_parts Try.info5
  go_enter Try.func27, Try.ntmps27
  go_wp2
  go_loopw [0, 3] (fun t v wr => ∃ (a : Option Addr) (cap f : Nat) (L : List Int) (m : Int), t = .int .u64 m ∧ v = .slice a L.length cap ∧ RVarAt n w.heap.size w wr a cap f L m) (fun t _ _ => (intOf t).toNat)
  case atStart => exact ⟨none, 0, 9, [], n, rfl, rfl, rfl, h0, h1, big10 n h1, rfl, World.ownsRow_nil _ _ _ _, Below.refl _ _⟩
  case round =>
    obtain ⟨a, cap, f, L, m, rfl, rfl, hx, m0, m1, hf, hLf, hown, hnx⟩ := hrel
    have HX : Hid (varL n = L ++ digs f m) := hx
    clear hx
    by_cases hlt : 128 ≤ m
    · go_wp2_with (at_builtin; refine wpList_append_own _ rfl (.tmp 6) (.tmp 11) 30 rfl w.heap.size 5 i0 (.int .u8 0) 1 1 Try.underlying30 hi hz0 hz1 hz2 rfl (by decide) (.slice a L.length cap) L.length _ rfl (World.ownsRow.alloc hown _) ⟨wr.heap.size, 0, none⟩ 1 1 [.int .u8 (m % 128 + 128)] rfl rfl (by intro t u ht; match t, ht with | 0, ht => simp at ht; subst ht; simp [Addr.add]) (by intro u hu; simp at hu; subst hu; rfl) (by unfold maxLen; omega) (by omega) (by have := hnx.size; simp; omega) ?_; intro v1 w1 hown1 hgrow1 hnil1)
      obtain ⟨a1, cap1, rfl⟩ := owns_form hown1
      obtain ⟨f', rfl, hd, hf'⟩ := digs_step f m hlt hf
      have R : RVarAt n w.heap.size w w1 a1 cap1 f' (L ++ [m % 128 + 128]) (m / 128) :=
        ⟨by rw [HX.out, hd]; simp, by omega, by omega, hf', by simp; omega, by simpa [OwnsB] using hown1, (hnx.alloc hnx.size _).grown hgrow1 (by simp; have := hnx.size; omega) (own_ge hown)⟩
      go_roundw
      case rel => exact ⟨a1, cap1, f', L ++ [m % 128 + 128], m / 128, rfl, by simp, R⟩
      case measure => simp [intOf]; omega
    · have hm : m < 128 := by omega
      go_wp2_with (at_builtin; refine wpList_append_own _ rfl (.tmp 15) (.tmp 18) 30 rfl w.heap.size 5 i0 (.int .u8 0) 1 1 Try.underlying30 hi hz0 hz1 hz2 rfl (by decide) (.slice a L.length cap) L.length _ rfl (World.ownsRow.alloc hown _) ⟨wr.heap.size, 0, none⟩ 1 1 [.int .u8 m] rfl rfl (by intro t u ht; match t, ht with | 0, ht => simp at ht; subst ht; simp [Addr.add]) (by intro u hu; simp at hu; subst hu; rfl) (by unfold maxLen; omega) (by omega) (by have := hnx.size; simp; omega) ?_; intro v1 w1 hown1 hgrow1 hnil1)
      obtain ⟨a1, cap1, hv⟩ := owns_form hown1
      have hd := digs_last f m hm
      have hx : varL n = L ++ [m] := by rw [HX.out, hd]
      have hlen : L.length + 1 = (varL n).length := by rw [hx]; simp
      have hb1 : Below w.heap.size w w1 := (hnx.alloc hnx.size _).grown hgrow1 (by simp; have := hnx.size; omega) (own_ge hown)
      rw [hv] at hown1 ⊢
      clear hgrow1 hnil1 hv
      have ho : OwnsB w1 w.heap.size a1 (varL n) cap1 := by rw [OwnsB, hx]; simpa using hown1
      have HL : Hid (L.length + 1 = (varL n).length) := hlen
      clear hx hlen hd hown1
      go_wp2
      go_ret
      exact ⟨a1, cap1, ret_slice HL.out, ho, hb1⟩

theorem copy_none (cap : Nat) (w : World) :
    Calls Try.prog 18 #[.slice none 0 cap] w fun e w' => e = .returned (.slice (some ⟨w.heap.size, 0, none⟩) 0 0) ∧ w' = w.alloc (.cells #[] 5) := by
  go_enter Try.func18, Try.ntmps18
  go_wp2
  go_ret
  exact ⟨rfl, rfl⟩
set_option maxHeartbeats 2000000 in
theorem copy_at (a : Addr) (n c : Nat) (xs : List Int) (w : World) (hx : xs.length = n) (hbig : n ≤ 140737488355328) (hc : ∀ i, i < n → w.cell? (a.add i) = some (.int .u8 (xs.getD i 0))) :
    Calls Try.prog 18 #[.slice (some a) n c] w fun e w' => ∃ v', e = .returned v' ∧ w'.ownsRow w.heap.size 5 1 v' n (xs.map (Value.int .u8)) ∧ v' ≠ .slice none 0 0 ∧ Below w.heap.size w w' := by
  obtain ⟨i0, hi, hz0, hz1, hz2⟩ := info_parts Try.info5
  have A : Hid (∀ i, i < n → w.cell? (a.add i) = some (.int .u8 (xs.getD i 0))) := hc
  clear hc
  go_enter Try.func18, Try.ntmps18
  go_wp2_with (at_builtin; refine wpList_append_own _ rfl _ _ 30 rfl w.heap.size 5 i0 (.int .u8 0) 1 1 Try.underlying30 hi hz0 hz1 hz2 rfl (by decide) _ _ _ rfl (World.ownsRow_made w #[] 0 (Nat.le_refl _) (Nat.zero_le _) rfl) a n c (xs.map (Value.int .u8)) rfl ?qc1 ?qc2 ?qc3 ?qc4 ?qc5 ?qc6 ?_)
  case qc1 => simp; omega
  case qc2 =>
    intro j u hj
    have hjn : j < n := by
      have := (List.getElem?_eq_some_iff.1 hj).1
      simp at this
      omega
    refine Lib.cell?_alloc_some _ ?_
    rw [A.out j hjn]
    have e : (xs.map (Value.int .u8))[j]? = some (Value.int .u8 (xs.getD j 0)) := by simp [List.getD, List.getElem?_eq_getElem (show j < xs.length by omega)]
    rw [e] at hj
    exact hj
  case qc3 => intro u hu; obtain ⟨x, _, rfl⟩ := List.mem_map.1 hu; rfl
  case qc4 => unfold maxLen; omega
  case qc5 => omega
  case qc6 => simp
  intro v' w1 hown hgrow hnil
  go_wp2
  go_ret
  refine ⟨v', rfl, by simpa using hown, ?_, ?_⟩
  · first | exact hnil | (intro e; exact absurd (hnil.1 e).1 (by simp))
  · exact ((Below.refl _ w).alloc (Nat.le_refl _) _).grown hgrow (by simp) (by intro k hk; simp [Value.ownBlock] at hk; omega)
/-- A copy lies in a block of its own, of nothing too. -/
theorem copy_any (a : Option Addr) (cap n : Nat) (l : List Int) (w : World) (hn : n = l.length) (h : IsB w a l) (hm : l.length ≤ 140737488355328) :
    Calls Try.prog 18 #[.slice a n cap] w fun e w' => ∃ g cap', e = .returned (.slice (some ⟨g, 0, none⟩) l.length cap') ∧ OwnsB w' w.heap.size (some ⟨g, 0, none⟩) l cap' ∧ Below w.heap.size w w' := by
  subst hn
  rcases a with _ | ad
  · obtain ⟨_, rfl | ⟨b, off, e, _⟩⟩ := h
    · refine (copy_none cap w).mono ?_
      rintro e w' ⟨rfl, rfl⟩
      exact ⟨w.heap.size, 0, rfl, ownsB_made w, (Below.refl _ _).alloc (Nat.le_refl _) _⟩
    · cases e
  · have hc : ∀ i, i < l.length → w.cell? (ad.add i) = some (.int .u8 (l.getD i 0)) := by
      intro i hi
      obtain ⟨_, rfl | ⟨b, off, e, _, hc⟩⟩ := h
      · simp at hi
      · cases e
        rw [addr_add]; exact hc i hi
    refine (copy_at ad l.length cap l w rfl hm hc).mono ?_
    rintro e w' ⟨v, rfl, hown, hv, hbel⟩
    have ho := hown
    obtain ⟨_, ⟨h1, _⟩ | ⟨g, c', cur, rfl, _⟩⟩ := hown
    · exact absurd h1 hv
    · exact ⟨g, c', rfl, ho, hbel⟩
theorem bs_inj {l l' : List Int} (h : AllB l) (h' : AllB l') (e : bs l = bs l') : l = l' := by
  unfold bs at e
  simp only [ByteArray.mk.injEq] at e
  have e' := congrArg Array.toList e
  simp only at e'
  have key : ∀ (a b : List Int), AllB a → AllB b → a.map (fun x => UInt8.ofNat x.toNat) = b.map (fun x => UInt8.ofNat x.toNat) → a = b := by
    intro a
    induction a with
    | nil => intro b _ _ hab; cases b with
      | nil => rfl
      | cons y b => simp at hab
    | cons x a ih => intro b ha hb hab; cases b with
      | nil => simp at hab
      | cons y b =>
        simp only [List.map_cons, List.cons.injEq] at hab
        obtain ⟨h1, h2⟩ := hab
        have hx := ha x (by simp)
        have hy := hb y (by simp)
        have h3 := congrArg UInt8.toNat h1
        simp only [UInt8.toNat_ofNat'] at h3
        rw [ih b (fun z hz => ha z (by simp [hz])) (fun z hz => hb z (by simp [hz])) h2, show x = y from by omega]
  exact key l l' h h' e'
theorem ba_loop (s : ByteArray) (n : Nat) : ∀ (i : Nat) (r : List UInt8), s.size - i = n → ByteArray.toList.loop s i r = r.reverse ++ s.data.toList.drop i := by
  induction n with
  | zero =>
    intro i r h
    unfold ByteArray.toList.loop
    rw [if_neg (by omega), List.drop_eq_nil_of_le (by have : s.data.toList.length = s.size := Array.length_toList
                                                      omega)]
    simp
  | succ n ih =>
    intro i r h
    have hl : s.data.toList.length = s.size := Array.length_toList
    have hi : i < s.data.toList.length := by omega
    unfold ByteArray.toList.loop
    rw [if_pos (by omega), ih _ _ (by omega), List.drop_eq_getElem_cons hi]
    have hg : s.get! i = s.data.toList[i] := by
      have : i < s.data.size := by rw [← Array.length_toList]; exact hi
      show s.data[i]! = _
      rw [getElem!_pos s.data i this, Array.getElem_toList]
    simp [hg]
theorem ba_inj {s t : ByteArray} (h : s.toList = t.toList) : s = t := by
  unfold ByteArray.toList at h
  rw [ba_loop s _ 0 [] rfl, ba_loop t _ 0 [] rfl] at h
  simp only [List.reverse_nil, List.nil_append, List.drop_zero] at h
  cases s; cases t
  simp only [ByteArray.mk.injEq]
  exact Array.toList_inj.1 h
theorem same_any (a a' : Option Addr) (n n' cap cap' : Nat) (l l' : List Int) (w : World) (h : IsB w a l) (h' : IsB w a' l') (hn : n = l.length) (hn' : n' = l'.length) :
    Calls Try.prog 13 #[.slice a n cap, .slice a' n' cap'] w fun e w' => e = .returned (.bool (decide (l = l'))) ∧ w = w' := by
  subst hn hn'
  have k1 := conv_run w a cap l h
  have k2 := conv_run w a' cap' l' h'
  have hb1 : AllB l := h.1
  have hb2 : AllB l' := h'.1
  clear h h'
  by_cases e : l = l'
  · subst e
    clear hb1 hb2
    go_enter Try.func13, Try.ntmps13
    go_wp2
    go_ret
    exact ⟨by simp, rfl⟩
  · have hne : bs l ≠ bs l' := fun h => e (bs_inj hb1 hb2 h)
    clear hb1 hb2
    go_enter Try.func13, Try.ntmps13
    go_wp2
    all_goals (go_ret; exact ⟨by simp [e]; exact fun h => hne (ba_inj h), rfl⟩)
theorem same_true (a a' : Option Addr) (n n' cap cap' : Nat) (l : List Int) (w : World) (h : IsB w a l) (h' : IsB w a' l) (hn : n = l.length) (hn' : n' = l.length) :
    Calls Try.prog 13 #[.slice a n cap, .slice a' n' cap'] w fun e w' => e = .returned (.bool true) ∧ w = w' := by
  refine (same_any a a' n n' cap cap' l l w h h' hn hn').mono ?_
  rintro e w' ⟨rfl, rfl⟩
  exact ⟨by simp, rfl⟩


/-- The document's reader lies in block M; its bytes lie between the blocks lo and M. -/
def RfAt (w : World) (lo M : Nat) (l : List Int) (e : Int) : Prop :=
  ∃ a cap, w.heap[M]? = some (.cells #[.slice a l.length cap, .int .i64 e] 73 (0, 0)) ∧ l.length ≤ cap ∧ cap ≤ maxLen ∧ (∀ x ∈ l, 0 ≤ x ∧ x ≤ 255) ∧
    (l = [] ∨ ∃ b off, a = some ⟨b, off, none⟩ ∧ lo < b ∧ b < M ∧ ∀ i, i < l.length → w.cell? ⟨b, off + i, none⟩ = some (.int .u8 (l.getD i 0)))
theorem rf_parts {w : World} {lo M : Nat} {l : List Int} {e : Int} (h : RfAt w lo M l e) : ∃ a cap, w.cell? ⟨M, 0, none⟩ = some (.slice a l.length cap) ∧ w.cell? ⟨M, 1, none⟩ = some (.int .i64 e) ∧ w.frozen? ⟨M, 0, none⟩ = false ∧ w.frozen? ⟨M, 1, none⟩ = false ∧ IsB w a l ∧ l.length ≤ cap ∧ cap ≤ maxLen := by
  obtain ⟨a, cap, hh, h1, h2, h3, h4⟩ := h
  obtain ⟨c1, c2, c3, c4⟩ := cell_two hh
  refine ⟨a, cap, c1, c2, c3, c4, ⟨h3, ?_⟩, h1, h2⟩
  rcases h4 with h4 | ⟨b, off, e1, _, e2, e3⟩
  · exact .inl h4
  · exact .inr ⟨b, off, e1, by have := lt_of_block hh; omega, e3⟩
theorem rf_set {w : World} {lo M : Nat} {l : List Int} {e : Int} (h : RfAt w lo M l e) (x : Int) : RfAt (w.setCell ⟨M, 1, none⟩ (.int .i64 x)) lo M l x := by
  obtain ⟨a, cap, hh, h1, h2, h3, h4⟩ := h
  refine ⟨a, cap, two_set1 hh, h1, h2, h3, ?_⟩
  rcases h4 with h4 | ⟨b, off, e1, e0, e2, e3⟩
  · exact .inl h4
  · exact .inr ⟨b, off, e1, e0, e2, fun i hi => by rw [cell_far _ _ _ _ _ _ (by omega)]; exact e3 i hi⟩
/-- What is left is cut at k: the cells as they are found behind the store. -/
theorem rf_cut {w : World} {lo M b off cap k : Nat} {l : List Int} {a' : Option Addr} (hh : w.heap[M]? = some (.cells #[.slice (some ⟨b, off, none⟩) l.length cap, .int .i64 0] 73 (0, 0))) (h1 : l.length ≤ cap) (h2 : cap ≤ maxLen) (h3 : ∀ x ∈ l, 0 ≤ x ∧ x ≤ 255) (hlo : lo < b) (hbM : b < M) (hc : ∀ i, i < l.length → w.cell? ⟨b, off + i, none⟩ = some (.int .u8 (l.getD i 0))) (hk : k ≤ l.length) (ha : l.length = k ∨ a' = some ⟨b, off + k, none⟩) :
    RfAt (w.setCell ⟨M, 0, none⟩ (.slice a' (l.length - k) (cap - k))) lo M (l.drop k) 0 := by
  refine ⟨a', cap - k, ?_, by simp; omega, by omega, fun x hx => h3 x (List.mem_of_mem_drop hx), ?_⟩
  · rw [List.length_drop]
    exact two_set0 hh
  · rcases ha with ha | ha
    · exact .inl (List.drop_eq_nil_of_le (by omega))
    · refine .inr ⟨b, off + k, ha, hlo, hbM, fun i hi => ?_⟩
      rw [List.length_drop] at hi
      rw [cell_far _ _ _ _ _ _ (by omega), Nat.add_assoc, hc (k + i) (by omega)]
      simp [List.getD]
theorem rfail_any (lo M : Nat) (l : List Int) (e x : Int) (w : World) (h : RfAt w lo M l e) :
    Calls Try.prog 55 #[.pointer (some ⟨M, 0, none⟩), .int .i64 x] w fun r w' => r = .returned (.tuple #[]) ∧ RfAt w' lo M l (failV e x) ∧ w.grownBy w' (some M) := by
  obtain ⟨a, cap, c1, c2, c3, c4, _, _, _⟩ := rf_parts h
  have HR : Hid (RfAt w lo M l e) := h
  clear h
  by_cases he : e = 0
  · subst he
    go_enter Try.func55, Try.ntmps55
    go_wp2
    go_end0
    rw [failV, if_pos rfl]
    exact ⟨rfl, rf_set HR.out x, grown_set _ _ _⟩
  · have hq : (e == 0) = false := by rw [beq_eq_false_iff_ne]; exact he
    go_enter Try.func55, Try.ntmps55
    go_wp2
    go_end0
    rw [failV, if_neg he]
    exact ⟨rfl, HR.out, World.grownBy.refl _ _⟩
theorem grown_two {a b c : World} {row : Option Nat} (h : a.grownBy b row) (k : b.grownBy c row) : a.grownBy c row :=
  ⟨k.os.trans h.os, k.tape.trans h.tape, k.output.trans h.output, Nat.le_trans h.size k.size, fun i hi hn => (k.block i (Nat.lt_of_lt_of_le hi h.size) hn).trans (h.block i hi hn)⟩

theorem one_step (k : Nat) (hk : k ≤ 8) : IntKind.u64.wrap (2 ^ (7 * k) * 128) = 2 ^ (7 * (k + 1)) := by
  have hm := pow7_mono (k + 1) 9 (by omega)
  have h9 : (2 : Int) ^ (7 * 9) = 9223372036854775808 := by decide
  have hp : (0 : Int) < 2 ^ (7 * (k + 1)) := Int.pow_pos (by decide)
  rw [IntKind.wrap_u64, Int.mul_comm, ← pow7_step]
  omega
theorem add_step (k : Nat) (acc c : Int) (h0 : 0 ≤ acc) (h1 : acc < 2 ^ (7 * k)) (hc : 0 ≤ c) (h9 : k ≤ 8 ∧ c ≤ 127 ∨ k = 9 ∧ c ≤ 1) :
    IntKind.u64.wrap (acc + IntKind.u64.wrap (c * 2 ^ (7 * k))) = acc + c * 2 ^ (7 * k) := by
  have D := dig_or k acc c h0 h1 hc h9
  have hp : (0 : Int) < 2 ^ (7 * k) := Int.pow_pos (by decide)
  have hbp : 0 ≤ c * 2 ^ (7 * k) := Int.mul_nonneg hc (by omega)
  rw [IntKind.wrap_u64, IntKind.wrap_u64]
  omega
set_option maxHeartbeats 2000000 in
theorem rrvar_ok (lo M : Nat) (l : List Int) (w : World) (h : RfAt w lo M l 0) :
    Calls Try.prog 57 #[.pointer (some ⟨M, 0, none⟩)] w fun r w' => r = .returned (.int .u64 (upS l 0 18446744073709551615).1) ∧ RfAt w' lo M (upS l 0 18446744073709551615).2.1 (upS l 0 18446744073709551615).2.2 ∧ w.grownBy w' (some M) := by
  have HR : Hid (RfAt w lo M l 0) := h
  obtain ⟨a, cap, c1, c2, c3, c4, hB, hcap, hm⟩ := rf_parts h
  obtain ⟨hb, hB'⟩ := hB
  have hm' := hm
  unfold maxLen at hm'
  clear h
  go_enter Try.func57, Try.ntmps57
  go_wp2
  go_loop [3, 4, 5] (fun n o i => ∃ (k : Nat) (acc : Int), k ≤ l.length ∧ k ≤ 9 ∧ i = .int .i64 k ∧ n = .int .u64 acc ∧ o = .int .u64 (2 ^ (7 * k)) ∧ 0 ≤ acc ∧ acc < 2 ^ (7 * k) ∧ rdL l = rdF k acc (l.drop k)) (fun _ _ i => l.length - (intOf i).toNat)
  case atStart => exact ⟨0, 0, Nat.zero_le _, Nat.zero_le _, rfl, rfl, rfl, by decide, by decide, rfl⟩
  case round =>
    obtain ⟨k, acc, hkl, hk9, rfl, rfl, rfl, ha0, ha1, hr⟩ := hrel
    have Hr : Hid (rdL l = rdF k acc (l.drop k)) := hr
    clear hr
    by_cases hl : k < l.length
    · rcases hB' with rfl | ⟨b, off, rfl, hsz, hc⟩
      · simp at hl
      have hcell := hc k hl
      have hx := hb l[k] (List.getElem_mem hl)
      have hU4 : rdL l = (0, 0, 4) → upS l 0 18446744073709551615 = (0, l, 4) := fun E => by rw [upS, if_pos rfl, E]; rfl
      have hUn : ∀ n sz, rdL l = (n, sz, 0) → n ≤ 18446744073709551615 → upS l 0 18446744073709551615 = (n, l.drop sz, 0) := fun n sz E hn => by rw [upS, if_pos rfl, E]; simp only [if_true]; rw [if_pos hn]
      have HU4 : Hid (rdL l = (0, 0, 4) → upS l 0 18446744073709551615 = (0, l, 4)) := hU4
      have HUn : Hid (∀ n sz, rdL l = (n, sz, 0) → n ≤ 18446744073709551615 → upS l 0 18446744073709551615 = (n, l.drop sz, 0)) := hUn
      clear hU4 hUn
      have hcut : Hid (∀ a', (l.length = k + 1 ∨ a' = some ⟨b, off + (k + 1), none⟩) → RfAt (w.setCell ⟨M, 0, none⟩ (.slice a' (l.length - (k + 1)) (cap - (k + 1)))) lo M (l.drop (k + 1)) 0) := by
        intro a' ha'
        obtain ⟨a2, cap2, hh, _, _, _, h5⟩ := HR.out
        have e2 := (cell_two hh).1
        rw [c1] at e2
        simp only [Option.some.injEq, Value.slice.injEq] at e2
        obtain ⟨rfl, _, rfl⟩ := e2
        rcases h5 with rfl | ⟨b2, off2, e5, hlo, hbM, _⟩
        · simp at hl
        · simp only [Option.some.injEq, Addr.mk.injEq] at e5
          obtain ⟨rfl, rfl, _⟩ := e5
          exact rf_cut hh hcap hm hb hlo hbM hc (by omega) ha'
      go_wp2
      all_goals first
        | (go_round
           case rel =>
             have h9 : ¬ (k : Int) = 9 := by assumption
             have hge : 128 ≤ l[k] := by assumption
             have D := dig_or k acc (l[k] % 128) ha0 ha1 (by omega) (.inl ⟨by omega, by omega⟩)
             have A := add_step k acc (l[k] % 128) ha0 ha1 (by omega) (.inl ⟨by omega, by omega⟩)
             have O := one_step k (by omega)
             exact ⟨k + 1, acc + l[k] % 128 * 2 ^ (7 * k), by omega, by omega, by go_num, by rw [A], by rw [O], D.2.1, dig_bd k acc _ ha1 (by omega), by rw [Hr.out]; exact rd_go l k acc hl (by omega) (by omega) hge⟩
           case measure => simp [intOf]; omega)
        | (have h1 : 1 < l[k] := by assumption
           have E : rdL l = (0, 0, 4) := by rw [Hr.out]; exact rd_bad l k acc hl (.inl ⟨by omega, h1⟩)
           go_ret
           rw [HU4.out E]
           exact ⟨rfl, rf_set HR.out 4, grown_set _ _ _⟩)
        | (have h1 : (l[k] == 0) = true := by assumption
           have E : rdL l = (0, 0, 4) := by rw [Hr.out]; exact rd_bad l k acc hl (.inr ⟨by omega, by simpa using h1⟩)
           go_ret
           rw [HU4.out E]
           exact ⟨rfl, rf_set HR.out 4, grown_set _ _ _⟩)
        | (have h1 : 1 < l[k] ∨ (l[k] == 0) = true := by assumption
           have E : rdL l = (0, 0, 4) := by
             rw [Hr.out]
             refine rd_bad l k acc hl ?_
             rcases h1 with h1 | h1
             · exact .inl ⟨by omega, h1⟩
             · exact .inr ⟨by omega, by simpa using h1⟩
           go_ret
           rw [HU4.out E]
           exact ⟨rfl, rf_set HR.out 4, grown_set _ _ _⟩)
        | (have h1 : l[k] < 128 := by assumption
           have h2 : ¬ (k = 9 ∧ 1 < l[k]) := by omega
           have h3 : ¬ (0 < k ∧ l[k] = 0) := by
             first
               | (have h4 : (l[k] == 0) = false := by assumption
                  intro h5
                  simp [h5.2] at h4)
               | (have h4 : l[k] ≤ 1 ∧ (l[k] == 0) = false := by assumption
                  have h6 := h4.2
                  intro h5
                  simp [h5.2] at h6)
               | omega
           have E : rdL l = (acc + l[k] % 128 * 2 ^ (7 * k), k + 1, 0) := by rw [Hr.out]; exact rd_stop l k acc hl h2 h3 h1
           have D := dig_or k acc (l[k] % 128) ha0 ha1 (by omega) (by omega)
           have A := add_step k acc (l[k] % 128) ha0 ha1 (by omega) (by omega)
           go_ret
           rw [HUn.out _ _ E (by have := D.2.2; omega)]
           refine ⟨ret_int A, ?_, grown_set _ _ _⟩
           first
             | exact hcut.out (some ⟨b, off + (k + 1), none⟩) (.inr rfl)
             | (have C := hcut.out (some ⟨b, off, none⟩) (.inl (by omega))
                rw [show cap - (k + 1) = 0 from by omega] at C
                exact C)
             | (have h10 : (10 : Nat) = k + 1 := by omega
                rw [h10]
                first
                  | exact hcut.out (some ⟨b, off + (k + 1), none⟩) (.inr rfl)
                  | (have C := hcut.out (some ⟨b, off, none⟩) (.inl (by omega))
                     rw [show cap - (k + 1) = 0 from by omega] at C
                     exact C)))
    · have E : rdL l = (0, 0, 3) := by rw [Hr.out]; exact rd_end l k acc (by omega)
      have HU3 : Hid (upS l 0 18446744073709551615 = (0, l, 3)) := by show _ = _; rw [upS, if_pos rfl, E]; rfl
      clear E
      go_wp2
      go_ret
      rw [HU3.out]
      exact ⟨rfl, rf_set HR.out 3, grown_set _ _ _⟩
theorem rrvar_any (lo M : Nat) (l : List Int) (e : Int) (w : World) (h : RfAt w lo M l e) :
    Calls Try.prog 57 #[.pointer (some ⟨M, 0, none⟩)] w fun r w' => r = .returned (.int .u64 (upS l e 18446744073709551615).1) ∧ RfAt w' lo M (upS l e 18446744073709551615).2.1 (upS l e 18446744073709551615).2.2 ∧ w.grownBy w' (some M) := by
  by_cases he : e = 0
  · subst he
    exact rrvar_ok lo M l w h
  · obtain ⟨a, cap, c1, c2, c3, c4, _, _, _⟩ := rf_parts h
    have HR : Hid (RfAt w lo M l e) := h
    have HU : Hid (upS l e 18446744073709551615 = (0, l, e)) := by show _ = _; rw [upS, if_neg he]
    have hq : (e != 0) = true := by rw [bne_iff_ne]; exact he
    clear h
    go_enter Try.func57, Try.ntmps57
    go_wp2
    go_ret
    rw [HU.out]
    exact ⟨rfl, HR.out, World.grownBy.refl _ _⟩
theorem up_most (l : List Int) (e most : Int) (hb : ∀ x ∈ l, 0 ≤ x ∧ x ≤ 255) :
    (e ≠ 0 ∧ upS l e 18446744073709551615 = (0, l, e) ∧ upS l e most = (0, l, e)) ∨
    (e = 0 ∧ ∃ er, er ≠ 0 ∧ upS l e 18446744073709551615 = (0, l, er) ∧ upS l e most = (0, l, er)) ∨
    (e = 0 ∧ ∃ n l', n ≤ most ∧ upS l e 18446744073709551615 = (n, l', 0) ∧ upS l e most = (n, l', 0)) ∨
    (e = 0 ∧ ∃ n l', most < n ∧ upS l e 18446744073709551615 = (n, l', 0) ∧ upS l e most = (0, l, 4)) := by
  by_cases he : e = 0
  · right
    have hF := rdL_facts l hb
    rcases hF with ⟨h0, h1, h2, _, _⟩ | ⟨h0, _, _⟩
    · right
      have e1 : upS l e 18446744073709551615 = ((rdL l).1, l.drop (rdL l).2.1, 0) := by rw [upS, if_pos he, if_pos h0, if_pos h2]
      by_cases hm : (rdL l).1 ≤ most
      · exact .inl ⟨he, _, _, hm, e1, by rw [upS, if_pos he, if_pos h0, if_pos hm]⟩
      · exact .inr ⟨he, _, _, by omega, e1, by rw [upS, if_pos he, if_pos h0, if_neg hm]⟩
    · left
      have hne : ¬ (rdL l).2.2 = 0 := by omega
      exact ⟨he, _, hne, by rw [upS, if_pos he, if_neg hne], by rw [upS, if_pos he, if_neg hne]⟩
  · left
    exact ⟨he, by rw [upS, if_neg he], by rw [upS, if_neg he]⟩
theorem rf_back {w w1 : World} {lo M cap : Nat} {a : Option Addr} {l l' : List Int} (h : RfAt w lo M l 0) (hc : w.cell? ⟨M, 0, none⟩ = some (.slice a l.length cap)) (h1 : RfAt w1 lo M l' 0) (hg : w.grownBy w1 (some M)) :
    RfAt ((w1.setCell ⟨M, 1, none⟩ (.int .i64 4)).setCell ⟨M, 0, none⟩ (.slice a l.length cap)) lo M l 4 := by
  obtain ⟨a2, cap2, hh, q1, q2, q3, q4⟩ := h
  have e2 := (cell_two hh).1
  rw [hc] at e2
  simp only [Option.some.injEq, Value.slice.injEq] at e2
  obtain ⟨rfl, _, rfl⟩ := e2
  obtain ⟨a3, cap3, hh3, _⟩ := h1
  refine ⟨a, cap, two_set0 (two_set1 hh3), q1, q2, q3, ?_⟩
  rcases q4 with q4 | ⟨b, off, e1, e0, e2, e3⟩
  · exact .inl q4
  · refine .inr ⟨b, off, e1, e0, e2, fun i hi => ?_⟩
    rw [cell_far _ _ _ _ _ _ (by omega), cell_far _ _ _ _ _ _ (by omega)]
    exact hg.cell (e3 i hi) (by intro q; have := Option.some.inj q; simp at this; omega)
set_option maxHeartbeats 1000000 in
theorem rupto_any (lo M : Nat) (l : List Int) (e most : Int) (w : World) (h : RfAt w lo M l e) :
    Calls Try.prog 54 #[.pointer (some ⟨M, 0, none⟩), .int .u64 most] w fun r w' => r = .returned (.int .u64 (upS l e most).1) ∧ RfAt w' lo M (upS l e most).2.1 (upS l e most).2.2 ∧ w.grownBy w' (some M) := by
  have HR : Hid (RfAt w lo M l e) := h
  obtain ⟨a, cap, c1, c2, c3, c4, hB, hcap, hm⟩ := rf_parts h
  rcases up_most l e most hB.1 with ⟨he, u1, u2⟩ | ⟨he, er, hne, u1, u2⟩ | ⟨he, n, l', hn, u1, u2⟩ | ⟨he, n, l', hn, u1, u2⟩
  all_goals
    rw [u2]
    have U1 : Hid (upS l e 18446744073709551615 = _) := u1
    clear h u1 u2 hB
  · have hq : (e == 0) = false := by rw [beq_eq_false_iff_ne]; exact he
    go_enter Try.func54, Try.ntmps54
    go_wp2_with fail
    refine (rrvar_any lo M l e w HR.out).mono ?_
    rw [U1.out]
    rintro r w1 ⟨rfl, r1, g1⟩
    obtain ⟨a1, cap1, d1, d2, d3, d4, _, _, _⟩ := rf_parts r1
    go_wp2
    go_ret
    exact ⟨rfl, r1, g1⟩
  · have hq : (er == 0) = false := by rw [beq_eq_false_iff_ne]; exact hne
    go_enter Try.func54, Try.ntmps54
    go_wp2_with fail
    refine (rrvar_any lo M l e w HR.out).mono ?_
    rw [U1.out]
    rintro r w1 ⟨rfl, r1, g1⟩
    obtain ⟨a1, cap1, d1, d2, d3, d4, _, _, _⟩ := rf_parts r1
    go_wp2
    go_ret
    exact ⟨rfl, r1, g1⟩
  · go_enter Try.func54, Try.ntmps54
    go_wp2_with fail
    refine (rrvar_any lo M l e w HR.out).mono ?_
    rw [U1.out]
    rintro r w1 ⟨rfl, r1, g1⟩
    obtain ⟨a1, cap1, d1, d2, d3, d4, _, _, _⟩ := rf_parts r1
    go_wp2
    go_ret
    exact ⟨rfl, r1, g1⟩
  · subst he
    go_enter Try.func54, Try.ntmps54
    go_wp2_with fail
    refine (rrvar_any lo M l 0 w HR.out).mono ?_
    rw [U1.out]
    rintro r w1 ⟨rfl, r1, g1⟩
    obtain ⟨a1, cap1, d1, d2, d3, d4, _, _, _⟩ := rf_parts r1
    go_wp2
    go_ret
    exact ⟨rfl, rf_back HR.out c1 r1 g1, grown_two g1 (grown_two (grown_set _ _ _) (grown_set _ _ _))⟩

theorem RdAt.bytes {w : World} {B : Nat} {l : List Int} {e : Int} (h : RdAt w B l e) : ∀ x ∈ l, 0 ≤ x ∧ x ≤ 255 := by
  obtain ⟨_, _, _, _, _, h3, _⟩ := h
  exact h3
theorem up_len (l : List Int) (e most : Int) : (upS l e most).2.1.length ≤ l.length := by
  rw [upS]
  split
  · split
    · split
      · simp
      · simp
    · simp
  · simp
theorem rf_grown {w w' : World} {lo M B : Nat} {l : List Int} {e : Int} (h : RfAt w lo M l e) (hg : w.grownBy w' (some B)) (hB : B ≤ lo ∨ M < B) (hM : M ≠ B) : RfAt w' lo M l e := by
  obtain ⟨a, cap, hh, h1, h2, h3, h4⟩ := h
  have hlt := lt_of_block hh
  refine ⟨a, cap, (hg.block M hlt (by intro q; exact hM (Option.some.inj q))).trans hh, h1, h2, h3, ?_⟩
  rcases h4 with h4 | ⟨b, off, e1, e0, e2, e3⟩
  · exact .inl h4
  · exact .inr ⟨b, off, e1, e0, e2, fun i hi => hg.cell (e3 i hi) (by intro q; have := Option.some.inj q; simp at this; omega)⟩
theorem rd_grown {w w' : World} {B M : Nat} {l : List Int} {e : Int} (h : RdAt w B l e) (hg : w.grownBy w' (some M)) (hM : B < M) : RdAt w' B l e := by
  obtain ⟨a, cap, hh, h1, h2, h3, h4⟩ := h
  have hlt := lt_of_block hh
  refine ⟨a, cap, (hg.block B hlt (by intro q; have := Option.some.inj q; omega)).trans hh, h1, h2, h3, ?_⟩
  rcases h4 with h4 | ⟨b, off, e1, e2, e3⟩
  · exact .inl h4
  · exact .inr ⟨b, off, e1, e2, fun i hi => hg.cell (e3 i hi) (by intro q; have := Option.some.inj q; simp at this; omega)⟩
theorem isB_grown {w w' : World} {g B : Nat} {l : List Int} (h : IsB w (some ⟨g, 0, none⟩) l) (hg : w.grownBy w' (some B)) (hne : g ≠ B) : IsB w' (some ⟨g, 0, none⟩) l := by
  obtain ⟨h1, h2 | ⟨b, off, e, hs, hc⟩⟩ := h
  · exact ⟨h1, .inl h2⟩
  · cases e
    refine ⟨h1, .inr ⟨g, 0, rfl, Nat.lt_of_lt_of_le hs hg.size, fun i hi => ?_⟩⟩
    exact hg.cell (hc i hi) (by intro q; exact hne (Option.some.inj q))
theorem rf_keep {w w' : World} {lo M : Nat} {l : List Int} {e : Int} (h : RfAt w lo M l e) (hb : Below w.heap.size w w') : RfAt w' lo M l e := by
  obtain ⟨a, cap, hh, h1, h2, h3, h4⟩ := h
  have hlt := lt_of_block hh
  refine ⟨a, cap, (hb.block M hlt).trans hh, h1, h2, h3, ?_⟩
  rcases h4 with h4 | ⟨b, off, e1, e0, e2, e3⟩
  · exact .inl h4
  · exact .inr ⟨b, off, e1, e0, e2, fun i hi => by rw [hb.cell (p := ⟨b, off + i, none⟩) (by show b < _; omega)]; exact e3 i hi⟩
end Go.Proofs.Ytgpkiajakokjmaa
