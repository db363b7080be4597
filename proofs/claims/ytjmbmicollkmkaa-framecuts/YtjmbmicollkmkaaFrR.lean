/- Slices of frames of one's own; what Cut answers. -/
import Derived.Test.YtjmbmicollkmkaaFrQ
namespace Go.Proofs.Ytjmbmicollkmkaa
open Go.RowKit
set_option linter.unusedVariables false

theorem Try.info29 : (Try.prog.info? 29).map (fun i => (i.zero, i.size, i.bytes)) = some (some (.agg #[.int .i64 0, .slice none 0 0]), 2, 32) := by kernel_rfl

/-- The cells of frames. -/
def cellsF : List Fr → List Value
  | [] => []
  | f :: l => .int .i64 f.k :: .slice f.a f.b.length f.c :: cellsF l

theorem cellsF_append : ∀ (a b : List Fr), cellsF (a ++ b) = cellsF a ++ cellsF b
  | [], _ => rfl
  | f :: a, b => by simp [cellsF, cellsF_append a b]
theorem cellsF_at : ∀ (fs : List Fr) (i : Nat) (h : i < fs.length), (cellsF fs)[i * 2]? = some (.int .i64 fs[i].k) ∧ (cellsF fs)[i * 2 + 1]? = some (.slice fs[i].a fs[i].b.length fs[i].c)
  | f :: l, 0, _ => by simp [cellsF]
  | f :: l, i + 1, h => by
    have := cellsF_at l i (by simpa using h)
    rw [show (i + 1) * 2 = i * 2 + 2 from by omega, show i * 2 + 2 + 1 = i * 2 + 1 + 2 from by omega]
    simpa [cellsF] using this

/-- A row of frames of one's own. -/
def RowF (w : World) (base : Nat) (a : Option Addr) (fs : List Fr) (cap : Nat) : Prop := w.ownsRow base 29 2 (.slice a fs.length cap) fs.length (cellsF fs)

theorem ownsf_form {w : World} {base n : Nat} {v : Value} {xs : List Value} (h : w.ownsRow base 29 2 v n xs) : ∃ a cap, v = .slice a n cap := by
  obtain ⟨_, ⟨rfl, rfl⟩ | ⟨g, c', cur, rfl, _⟩⟩ := h
  · exact ⟨_, _, rfl⟩
  · exact ⟨_, _, rfl⟩

theorem rowF_nil (w : World) (base : Nat) : RowF w base none [] 0 := World.ownsRow_nil _ _ _ _

theorem RowF.ge {w : World} {base cap : Nat} {a : Option Addr} {fs : List Fr} (h : RowF w base a fs cap) : ∀ k, (Value.slice a fs.length cap).ownBlock = some k → base ≤ k := fun k hk => (World.ownsRow.lt h k hk).1

theorem RowF.keep {w w' : World} {base cap : Nat} {a : Option Addr} {fs : List Fr} (h : RowF w base a fs cap) (hb : Below w.heap.size w w') : RowF w' base a fs cap := by
  obtain ⟨h0, h1 | ⟨g, c', cur, h1, hg, h2, h3⟩⟩ := h
  · exact ⟨h0, .inl h1⟩
  · exact ⟨h0, .inr ⟨g, c', cur, h1, hg, by rw [hb.block g (Array.getElem?_eq_some_iff.1 h2).1]; exact h2, h3⟩⟩

/-- Two rows of different kinds lie in different blocks. -/
theorem rows_apart {w : World} {base base' n n' s s' : Nat} {e e' : TypeId} {v v' : Value} {xs xs' : List Value} (h : w.ownsRow base e s v n xs) (h' : w.ownsRow base' e' s' v' n' xs') (he : e ≠ e') : v.ownBlock = none ∨ v.ownBlock ≠ v'.ownBlock := by
  obtain ⟨_, ⟨rfl, _⟩ | ⟨g, c, cur, rfl, _, hg, _⟩⟩ := h
  · exact .inl rfl
  · refine .inr fun ee => ?_
    obtain ⟨_, ⟨rfl, _⟩ | ⟨g', c', cur', rfl, _, hg', _⟩⟩ := h'
    · simp [Value.ownBlock] at ee
    · simp [Value.ownBlock] at ee
      subst ee
      rw [hg] at hg'
      simp at hg'
      exact he hg'.2

/-- A box of another kind is no row. -/
theorem box_apart {w : World} {g base n s : Nat} {t e : TypeId} {cs : Array Value} {v : Value} {xs : List Value} (h : w.heap[g]? = some (.cells cs t (0, 0))) (h' : w.ownsRow base e s v n xs) (he : t ≠ e) : some g ≠ v.ownBlock := by
  intro ee
  obtain ⟨_, ⟨rfl, _⟩ | ⟨g', c', cur', rfl, _, hg', _⟩⟩ := h'
  · simp [Value.ownBlock] at ee
  · simp [Value.ownBlock] at ee
    subst ee
    rw [h] at hg'
    simp at hg'
    exact he hg'.2

/-- A frame is appended to a row of the call's own; just its own row may be another. -/
theorem wpList_appf {ops : Array Oper} {rest : List Oper} {o : Oper} {a : Act} {Q : Exit → Act → World → Prop} {w : World} (hgd : o.guard = none) (s x : Operand)
    (ho : o.op = .call { callee := .builtin .append, args := #[s, x], argTypes := #[52, 52] })
    (base : Nat) (hbase : base ≤ w.heap.size) (as0 : Option Addr) (fs : List Fr) (cs n : Nat) (hn : n = fs.length) (hs : a.eval s = .slice as0 n cs) (hown : RowF w base as0 fs cs)
    (g c : Nat) (f : Fr) (hx : a.eval x = .slice (some ⟨g, 0, none⟩) 1 c) (h0 : w.cell? ⟨g, 0, none⟩ = some (.int .i64 f.k)) (h1 : w.cell? ⟨g, 1, none⟩ = some (.slice f.a f.b.length f.c)) (hlen : fs.length ≤ 1000000)
    (h : ∀ a' cap' w', RowF w' base a' (fs ++ [f]) cap' → w.grownBy w' (Value.slice as0 n cs).ownBlock → wpList Try.prog ops Q rest (a.put o.dst (.slice a' (n + 1) cap')) w') :
    wpList Try.prog ops Q (o :: rest) a w := by
  subst hn
  obtain ⟨i0, hi, hz0, hz1, hz2⟩ := info_parts Try.info29
  refine wpList_append_own w hgd s x 52 ho base 29 i0 (.agg #[.int .i64 0, .slice none 0 0]) 2 32 Try.underlying52 hi hz0 hz1 hz2 rfl (by decide) _ _ _ hs hown ⟨g, 0, none⟩ 1 c [.int .i64 f.k, .slice f.a f.b.length f.c] hx rfl ?_ ?_ (by unfold maxLen; omega) (by omega) hbase ?_
  · intro j u hj
    match j, hj with
    | 0, hj => simp at hj; subst hj; simpa [Addr.add] using h0
    | 1, hj => simp at hj; subst hj; simpa [Addr.add] using h1
  · intro u hu
    simp at hu
    rcases hu with rfl | rfl <;> rfl
  · intro v' w' h1 h2 h3
    obtain ⟨a', cap', rfl⟩ := ownsf_form h1
    have e : cellsF (fs ++ [f]) = cellsF fs ++ [.int .i64 f.k, .slice f.a f.b.length f.c] := by rw [cellsF_append]; rfl
    exact h a' cap' w' (by rw [RowF, e, List.length_append]; exact h1) h2

theorem isF_of {w : World} {base cap : Nat} {a : Option Addr} {fs : List Fr} (h : RowF w base a fs cap) (hb : ∀ f ∈ fs, IsB w f.a f.b ∧ (f.a = none → f.b = [] ∧ f.c = 0) ∧ f.b.length ≤ maxLen) : IsF w a fs := by
  refine ⟨?_, hb⟩
  have h' := h
  obtain ⟨_, ⟨h1, h2⟩ | ⟨g, c', cur, h1, hg, h2, _⟩⟩ := h
  · exact .inl (List.eq_nil_of_length_eq_zero h2)
  · cases h1
    refine .inr ⟨g, 0, rfl, (Array.getElem?_eq_some_iff.1 h2).1, fun i hi => ?_⟩
    obtain ⟨e0, e1⟩ := cellsF_at fs i hi
    rw [Nat.zero_add, World.ownsRow.cellAt h' (i * 2) (by omega), World.ownsRow.cellAt h' (i * 2 + 1) (by omega)]
    exact ⟨e0, e1⟩

theorem OwnsB.grownF {w w' : World} {base base' cap n cs : Nat} {a as0 : Option Addr} {l : List Int} {fs : List Fr} (h : OwnsB w base a l cap) (hr : RowF w base' as0 fs cs) (hn : n = fs.length) (hg : w.grownBy w' (Value.slice as0 n cs).ownBlock) : OwnsB w' base a l cap := by
  subst hn
  exact World.ownsRow.kept h hg (rows_apart h hr (by decide))

theorem frs_bytes {w : World} {base : Nat} {fs : List Fr} (h : ∀ f ∈ fs, OwnsB w base f.a f.b f.c) (hb : ∀ f ∈ fs, AllB f.b) : ∀ f ∈ fs, IsB w f.a f.b ∧ (f.a = none → f.b = [] ∧ f.c = 0) ∧ f.b.length ≤ maxLen := by
  intro f hf
  obtain ⟨h1, h2, h3⟩ := ownsB_isL (h f hf)
  exact ⟨ownsB_isB (hb f hf) (h f hf), h3, by omega⟩

theorem bodyL_allB {l : List Int} (h : AllB l) : AllB (bodyL l) := (h.take _).drop _

theorem cuts_allB {b : List Int} {fs : List Fr} (hb : AllB b) (h : Cuts b fs) : ∀ f ∈ fs, AllB f.b := by
  intro f hf
  obtain ⟨i, hi, rfl⟩ := List.getElem_of_mem hf
  rw [(h i hi).2]
  exact bodyL_allB (restAt_allB i b hb)

def lenOf : Value → Nat
  | .slice _ k _ => k
  | _ => 0

/-- Under way: so many frames have been cut off. -/
structure CutAt (w wr : World) (b : List Int) (a' al : Option Addr) (c' cl : Nat) (fs : List Fr) : Prop where
  isB : IsB w a' (restAt fs.length b)
  cap : (restAt fs.length b).length ≤ c' ∧ c' ≤ maxLen
  good : Good fs.length b
  cuts : Cuts b fs
  row : RowF wr w.heap.size al fs cl
  body : ∀ f ∈ fs, OwnsB wr w.heap.size f.a f.b f.c
  below : Below w.heap.size w wr

theorem CutAt.isF {w wr : World} {b : List Int} {a' al : Option Addr} {c' cl : Nat} {fs : List Fr} (h : CutAt w wr b a' al c' cl fs) (hb : AllB b) : IsF wr al fs := isF_of h.row (frs_bytes h.body (cuts_allB hb h.cuts))

theorem isF_nil (w : World) : IsF w none [] := ⟨.inl rfl, fun f hf => by cases hf⟩

set_option maxHeartbeats 4000000 in
theorem cut_any (a : Option Addr) (cap n : Nat) (b : List Int) (w : World) (hn : n = b.length) (hB : IsB w a b) (hc : b.length ≤ cap) (hm : cap ≤ maxLen) (hbig : b.length ≤ 1000000) :
    Calls Try.prog 31 #[.slice a n cap] w fun e w' => ∃ (N : Nat) (r : Int) (a' : Option Addr) (c' : Nat) (fs : List Fr), e = .returned (.tuple #[.slice a' fs.length c', .int .i64 r]) ∧ Ends N b r ∧ (r = 0 → fs.length = N) ∧ (r ≠ 0 → fs = []) ∧ Cuts b fs ∧ IsF w' a' fs ∧ Below w.heap.size w w' := by
  subst hn
  have HB : Hid (AllB b) := hB.1
  have C0 : Hid (CutAt w w b a none cap 0 []) := ⟨hB, ⟨hc, hm⟩, good_zero b, fun i h => by simp at h, rowF_nil _ _, fun f hf => by (cases hf), Below.refl _ _⟩
  clear hB
  go_enter Try.func31, Try.ntmps31
  go_wp2
  go_loopw [0, 4] (fun bv lv wr => ∃ (fs : List Fr) (a' : Option Addr) (c' : Nat) (al : Option Addr) (cl : Nat), bv = .slice a' (restAt fs.length b).length c' ∧ lv = .slice al fs.length cl ∧ CutAt w wr b a' al c' cl fs) (fun bv _ _ => lenOf bv)
  case atStart => exact ⟨[], a, cap, none, 0, rfl, rfl, C0.out⟩
  case round =>
    obtain ⟨fs, a1, c1, al, cl, rfl, rfl, hC⟩ := hrel
    have HC : Hid (CutAt w _ b a1 al c1 cl fs) := hC
    obtain ⟨R, hR⟩ : ∃ R, restAt fs.length b = R := ⟨_, rfl⟩
    have ER : Hid (restAt fs.length b = R) := hR
    have hgl := good_len _ _ hC.good
    obtain ⟨hcp, hcm⟩ := hC.cap
    have hI := hC.isB
    rw [hR] at hcp hI hgl ⊢
    have HI : Hid (IsB w a1 R) := hI
    have HCM : Hid (c1 ≤ maxLen) := hcm
    unfold maxLen at hcm
    by_cases h0 : R = []
    · have HE : Hid (Ends fs.length b 0) := ⟨hC.good, .inl ⟨hR.trans h0, rfl⟩⟩
      subst h0
      clear hC hI hR
      go_wp2
      go_ret2
      exact ⟨fs.length, 0, al, cl, fs, rfl, HE.out, fun _ => rfl, fun h => absurd rfl h, HC.out.cuts, HC.out.isF HB.out, HC.out.below⟩
    · have hpos : 0 < R.length := List.length_pos_iff.2 h0
      obtain ⟨r, hr⟩ : ∃ r, wrongL R false = r := ⟨_, rfl⟩
      have EW : Hid (wrongL R false = r) := hr
      have hRI := hI.keep hC.below
      have HRI : Hid (IsB _ a1 R) := hRI
      by_cases hr0 : r = 0
      · subst hr0
        have hxt := wrong_ext hr
        have hge := extL_ge R
        have hRb : AllB R := hI.1
        obtain ⟨_, rfl | ⟨bb, off, rfl, hbs, hcell⟩⟩ := hI
        · exact absurd rfl h0
        obtain ⟨E, hE⟩ : ∃ E, extL R = E := ⟨_, rfl⟩
        obtain ⟨X, hX⟩ : ∃ X, bodyL R = X := ⟨_, rfl⟩
        obtain ⟨y, hy⟩ : ∃ y, R.getD 0 0 = y := ⟨_, rfl⟩
        have EE : Hid (extL R = E) := hE
        have EX : Hid (bodyL R = X) := hX
        have EY : Hid (R.getD 0 0 = y) := hy
        have HXT : Hid (extL R ≤ R.length) := hxt
        have hnx : restAt (fs.length + 1) b = R.drop E := by rw [restAt_succ, hR, hE]
        have HNX : Hid (restAt (fs.length + 1) b = R.drop E) := hnx
        have HG : Hid (Good (fs.length + 1) b) := hC.good.next (by rw [hR]; exact h0) (by rw [hR]; exact hr)
        have HD : Hid ((R.drop E).length = R.length - E) := List.length_drop
        have I1 : Hid (IsB w (some ⟨bb, off + E, none⟩) (R.drop E)) := by
          have := IsB.part HI.out E R.length
          rwa [List.take_of_length_le (by rw [List.length_drop]; omega)] at this
        have I2 : Hid (c1 = E → IsB w (some ⟨bb, off, none⟩) (R.drop E)) := fun hcE => ⟨I1.out.1, .inl (List.eq_nil_of_length_eq_zero (by have := HD.out; omega))⟩
        have hfl : fs.length ≤ 1000000 := by omega
        have hbw := hC.below.size
        rw [hE] at hxt hge
        clear hcell hbs hE hX hy hnx hC hRI hR hr hRb
        rcases Decidable.em (c1 = E) with rfl | hcE
        all_goals
          go_wp2_with fail
          refine (wrong_any _ _ _ R false _ rfl HRI.out hcp HCM.out).mono ?_
          rw [EW.out]
          rintro e w1 ⟨rfl, m1, rfl⟩
          go_wp2_with fail
          refine (first_any _ _ _ R _ rfl (HRI.out.drewN m1) hcp HCM.out HXT.out).mono ?_
          rw [EX.out, EY.out]
          rintro e w2 ⟨a2, c2, rfl, o2, b2⟩
          rw [frV]
          have n2 : Below w2.heap.size w2 (w2.alloc (.cells #[.int .i64 y, .slice a2 X.length c2] 29)) := (Below.refl _ w2).alloc (Nat.le_refl _) _
          have R2 : Hid (RowF (w2.alloc (.cells #[.int .i64 y, .slice a2 X.length c2] 29)) w.heap.size al fs cl) := RowF.keep (RowF.keep (w := World.drewN _ m1) HC.out.row b2) n2
          have Y2 : Hid (∀ f ∈ fs, OwnsB (w2.alloc (.cells #[.int .i64 y, .slice a2 X.length c2] 29)) w.heap.size f.a f.b f.c) := fun f hf => OwnsB.keep (OwnsB.keep (w := World.drewN _ m1) (HC.out.body f hf) b2) n2
          have O2 : Hid (OwnsB (w2.alloc (.cells #[.int .i64 y, .slice a2 X.length c2] 29)) w.heap.size a2 X c2) := (o2.keep n2).mono hbw
          have B2 : Hid (Below w.heap.size w (w2.alloc (.cells #[.int .i64 y, .slice a2 X.length c2] 29))) := ((below_drewN HC.out.below m1).trans (b2.mono hbw)).alloc (Nat.le_trans hbw b2.size) _
          have X2 := boxed_new w2 y a2 X.length c2
          have x0 := X2.cell0
          have x1 := X2.cell1
          have hz2 := B2.out.size
          clear o2 b2 n2 X2
          go_wp2_with (first
            | (at_builtin; refine wpList_appf rfl _ _ rfl w.heap.size hz2 al fs cl _ rfl rfl R2.out _ _ ⟨y, a2, c2, X⟩ rfl x0 x1 hfl ?_; intro a3 c3 w3 r3 g3; have B3 : Hid (Below w.heap.size w w3) := B2.out.grown g3 hz2 R2.out.ge; have R3 : Hid (RowF w3 w.heap.size a3 (fs ++ [⟨y, a2, c2, X⟩]) c3) := r3; have O3 : Hid (OwnsB w3 w.heap.size a2 X c2) := O2.out.grownF R2.out rfl g3; have Y3 : Hid (∀ f ∈ fs, OwnsB w3 w.heap.size f.a f.b f.c) := (fun f hf => (Y2.out f hf).grownF R2.out rfl g3); clear r3 g3)
            | (go_at_call 28; refine (extent_any _ _ _ R _ rfl (HI.out.keep B3.out) hcp HCM.out).mono ?_; rintro e w' ⟨⟨E', rfl, hE1, hE2, HE⟩, rfl⟩; obtain rfl := HE.out.trans EE.out))
          have LN : Hid ((fs ++ [(⟨y, a2, c2, X⟩ : Fr)]).length = fs.length + 1) := by show _ = _; simp
          have CN : Hid (Cuts b (fs ++ [⟨y, a2, c2, X⟩])) := HC.out.cuts.next (by rw [ER.out]; exact EY.out.symm) (by rw [ER.out]; exact EX.out.symm)
          have YN : Hid (∀ f ∈ fs ++ [(⟨y, a2, c2, X⟩ : Fr)], OwnsB w3 w.heap.size f.a f.b f.c) := fun f hf => by
            rcases List.mem_append.1 hf with hf | hf
            · exact Y3.out f hf
            · simp at hf; subst hf; exact O3.out
          go_roundw
          case rel =>
            first
              | exact ⟨fs ++ [⟨y, a2, c2, X⟩], some ⟨bb, off + E', none⟩, c1 - E', a3, c3, by rw [LN.out, HNX.out, HD.out], by rw [LN.out], ⟨by rw [LN.out, HNX.out]; exact I1.out, by rw [LN.out, HNX.out, HD.out]; exact ⟨by omega, by unfold maxLen; omega⟩, by rw [LN.out]; exact HG.out, CN.out, R3.out, YN.out, B3.out⟩⟩
              | exact ⟨fs ++ [⟨y, a2, c2, X⟩], some ⟨bb, off, none⟩, 0, a3, c3, by rw [LN.out, HNX.out, HD.out, Nat.sub_eq_zero_of_le hcp], by rw [LN.out], ⟨by rw [LN.out, HNX.out]; exact I2.out (by simp), by rw [LN.out, HNX.out, HD.out]; exact ⟨by omega, by unfold maxLen; omega⟩, by rw [LN.out]; exact HG.out, CN.out, R3.out, YN.out, B3.out⟩⟩
          case measure => simp only [lenOf]; omega
      · have HE : Hid (Ends fs.length b r) := ⟨hC.good, .inr ⟨by rw [hR]; exact h0, by rw [hR]; exact hr, hr0⟩⟩
        have HBW : Hid (Below w.heap.size w _) := hC.below
        clear hC hI hR hr hRI
        go_wp2_with (go_at_call 23; refine (wrong_any a1 c1 _ R false _ rfl HRI.out hcp HCM.out).mono ?_; rw [EW.out]; rintro e w' ⟨rfl, m1, rfl⟩)
        go_ret2
        exact ⟨fs.length, r, none, 0, [], rfl, HE.out, fun h => absurd h hr0, fun _ => rfl, fun i h => by simp at h, isF_nil _, below_drewN HBW.out m1⟩
end Go.Proofs.Ytjmbmicollkmkaa
