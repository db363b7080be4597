/- Spans that can be read; two rows of spans, of runs, that tell the same. -/
import Derived.Test.YtgmljgogmbaioaaGreatDoorMfNO
namespace Go.Proofs.YtgmljgogmbaioaaGreatDoor
open Go.RowKit
set_option linter.unusedVariables false
set_option maxRecDepth 4000

/-- Spans that can be read. -/
def RdT (w : World) (a : Option Addr) (ts : List Td) : Prop :=
  ∀ i (hi : i < ts.length), ∃ g off la lk, a = some ⟨g, off, none⟩ ∧ w.cell? ⟨g, off + i * 4, none⟩ = some (.int .i64 ts[i].p) ∧ w.cell? ⟨g, off + i * 4 + 1, none⟩ = some (.int .i64 ts[i].c) ∧ w.cell? ⟨g, off + i * 4 + 2, none⟩ = some (.int .i64 ts[i].s) ∧ w.cell? ⟨g, off + i * 4 + 3, none⟩ = some (.slice la ts[i].l.length lk) ∧ IsI w la ts[i].l ∧ ts[i].l.length ≤ maxLen
theorem RdT.keep {w w' : World} {a : Option Addr} {ts : List Td} (h : RdT w a ts) (hb : Below w.heap.size w w') : RdT w' a ts := fun i hi => by
  obtain ⟨g, off, la, lk, e, c0, c1, c2, c3, hI, hl⟩ := h i hi
  exact ⟨g, off, la, lk, e, bcell hb c0, bcell hb c1, bcell hb c2, bcell hb c3, hI.keep hb, hl⟩
theorem flat_at : ∀ (rs : List Rw) (i : Nat) (h : i < rs.length), (rs.flatMap Rw.cs)[i * 4]? = some (.int .i64 rs[i].p) ∧ (rs.flatMap Rw.cs)[i * 4 + 1]? = some (.int .i64 rs[i].c) ∧ (rs.flatMap Rw.cs)[i * 4 + 2]? = some (.int .i64 rs[i].s) ∧ (rs.flatMap Rw.cs)[i * 4 + 3]? = some (.slice rs[i].a rs[i].l.length rs[i].k)
  | r :: rs, 0, _ => by simp [Rw.cs]
  | r :: rs, i + 1, h => by
    have := flat_at rs i (by simpa using h)
    rw [show (i + 1) * 4 = i * 4 + 4 from by omega, show i * 4 + 4 + 1 = i * 4 + 1 + 4 from by omega, show i * 4 + 4 + 2 = i * 4 + 2 + 4 from by omega, show i * 4 + 4 + 3 = i * 4 + 3 + 4 from by omega]
    simpa [Rw.cs] using this
theorem Told.rd {w : World} {B : Nat} {a : Option Addr} {n c : Nat} {ts : List Td} (h : Told w B (.slice a n c) ts) (hr : ∀ t ∈ ts, ∀ x ∈ t.l, -9223372036854775808 ≤ x ∧ x ≤ 9223372036854775807) : RdT w a ts := by
  intro i hi
  obtain ⟨rs, rfl, h2, h3⟩ := h
  have hi' : i < rs.length := by simpa using hi
  obtain ⟨q0, q1, q2, q3⟩ := flat_at rs i hi'
  have h2' := h2
  have hl : (rs.map Rw.toTd).length = rs.length := by simp
  obtain ⟨_, ⟨_, e⟩ | ⟨g, c, cur, e, hb, hg, _⟩⟩ := h2
  · omega
  · cases e
    have o := h3 rs[i] (List.getElem_mem hi')
    have hr' := hr _ (List.getElem_mem hi)
    have op := o.parts
    refine ⟨g, 0, rs[i].a, rs[i].k, rfl, ?_, ?_, ?_, ?_, ?_, ?_⟩
    · rw [Nat.zero_add, World.ownsRow.cellAt h2' (i * 4) (by omega)]; simpa using q0
    · rw [Nat.zero_add, World.ownsRow.cellAt h2' (i * 4 + 1) (by omega)]; simpa using q1
    · rw [Nat.zero_add, World.ownsRow.cellAt h2' (i * 4 + 2) (by omega)]; simpa using q2
    · rw [Nat.zero_add, World.ownsRow.cellAt h2' (i * 4 + 3) (by omega)]; simpa using q3
    · simp only [List.getElem_map] at hr' ⊢
      exact ownsI_isI hr' o
    · simp only [List.getElem_map]
      exact Nat.le_trans op.1 op.2.1
set_option maxRecDepth 20000 in
set_option maxHeartbeats 1000000 in
theorem rall_rd (a a' : Option Addr) (n c n' c' : Nat) (ts : List Td) (w : World) (h : RdT w a ts) (h' : RdT w a' ts) (hn : ts.length = n) (hn' : ts.length = n') (hl : ts.length ≤ 9000000000000000000) :
    Calls Tryz.prog 18 #[.slice a n c, .slice a' n' c'] w fun e w' => e = .returned (.bool true) ∧ Below w.heap.size w w' := by
  subst hn'
  subst hn
  have H : Hid (RdT w a ts) := h
  have H' : Hid (RdT w a' ts) := h'
  clear h h'
  go_enter Tryz.func18, Tryz.ntmps18
  go_wp2
  go_loopw [13] (fun jv wy => ∃ j : Nat, j ≤ ts.length ∧ jv = .int .i64 (j : Nat) ∧ Below w.heap.size w wy) (fun jv _ => ts.length - lenW jv)
  case atStart => exact ⟨0, Nat.zero_le _, rfl, Below.refl _ _⟩
  case round =>
    obtain ⟨j, hj, rfl, hB⟩ := hrel
    rename World => wy
    have HB : Hid (Below w.heap.size w wy) := hB
    by_cases hjl : j < ts.length
    · obtain ⟨g, off, la, lk, rfl, q0, q1, q2, q3, i1, l1⟩ := (H.out.keep hB) j hjl
      obtain ⟨g', off', la', lk', rfl, r0, r1, r2, r3, i2, l2⟩ := (H'.out.keep hB) j hjl
      obtain ⟨x, hx⟩ : ∃ x, ts[j] = x := ⟨_, rfl⟩
      rw [hx] at q0 q1 q2 q3 r0 r1 r2 r3 i1 i2 l1
      have I1 : Hid (IsI wy la x.l) := i1
      have I2 : Hid (IsI wy la' x.l) := i2
      obtain ⟨xl, hxl⟩ : ∃ xl, x.l.length = xl := ⟨_, rfl⟩
      have EX : Hid (x.l.length = xl) := hxl
      have LX : Hid (x.l.length ≤ maxLen) := l1
      rw [hxl] at q3 r3
      have e1 : (j : Int) < (ts.length : Int) := by omega
      have e0 : (0 : Int) ≤ (j : Nat) := by omega
      clear hB hx i1 i2 l1 l2 hxl
      go_wp2_with fail
      go_region_held3 (fun w' => w'.cell? ⟨g, off + j * 4, none⟩ = some (.int .i64 x.p) ∧ w'.cell? ⟨g, off + j * 4 + 1, none⟩ = some (.int .i64 x.c) ∧ w'.cell? ⟨g, off + j * 4 + 2, none⟩ = some (.int .i64 x.s) ∧ w'.cell? ⟨g, off + j * 4 + 3, none⟩ = some (.slice la xl lk) ∧ w'.cell? ⟨g', off' + j * 4, none⟩ = some (.int .i64 x.p) ∧ w'.cell? ⟨g', off' + j * 4 + 1, none⟩ = some (.int .i64 x.c) ∧ w'.cell? ⟨g', off' + j * 4 + 2, none⟩ = some (.int .i64 x.s) ∧ w'.cell? ⟨g', off' + j * 4 + 3, none⟩ = some (.slice la' xl lk')) (first | exact ⟨bcell B5.out q0, bcell B5.out q1, bcell B5.out q2, bcell B5.out q3, bcell B5.out r0, bcell B5.out r1, bcell B5.out r2, bcell B5.out r3⟩ | exact ⟨q0, q1, q2, q3, r0, r1, r2, r3⟩)
        ((go_at_call 47; refine (same_true x.p x.c x.s la la' xl xl lk lk' x.l _ (I1.out.keep (Below.refl _ _).drew) (I2.out.keep (Below.refl _ _).drew) EX.out.symm EX.out.symm LX.out).mono ?_; rintro e w5 ⟨rfl, b5⟩; have B5 : Hid (Below wy.heap.size wy w5) := Below.ofDrew b5; clear b5))
      go_wp2
      go_roundw
      case rel => exact ⟨j + 1, by omega, by congr 1, HB.out.trans (B5.out.mono HB.out.size)⟩
      case measure => simp [lenW]; omega
    · obtain rfl : j = ts.length := by omega
      clear hB
      go_wp2
      go_ret
      exact ⟨rfl, HB.out⟩
theorem Lv.isL {w : World} {B : Nat} {a : Option Addr} {l : List (Nat × Nat)} {c : Nat} (h : Lv w B a l c) : UIsL w a l := by
  by_cases hl : l = []
  · exact .inl hl
  · obtain ⟨g, e, _⟩ := h.cells 0 (by cases l with | nil => exact absurd rfl hl | cons _ _ => simp)
    refine .inr ⟨g, 0, e, ((h.ge g (by rw [e]; rfl)).2), fun i hi => ?_⟩
    obtain ⟨g', e', q0, q1⟩ := h.cells i hi
    rw [e] at e'
    cases e'
    rw [Nat.zero_add]
    exact ⟨q0, q1⟩
theorem usame_any (a b : Option Addr) (n n' ca cb : Nat) (L : List (Nat × Nat)) (w : World) (ha : UIsL w a L) (hb : UIsL w b L) (hn : L.length = n) (hn' : L.length = n') (hl : L.length ≤ 65536) :
    Calls Tryz.prog 41 #[.slice a n ca, .slice b n' cb] w fun e w' => e = .returned (.bool true) ∧ Below w.heap.size w w' := by
  subst hn
  subst hn'
  have HA : Hid (UIsL w a L) := ha
  have HB : Hid (UIsL w b L) := hb
  clear ha hb
  go_enter Tryz.func41, Tryz.ntmps41
  go_wp2
  go_loopw [13] (fun iv wr => ∃ i m : Nat, i ≤ L.length ∧ iv = .int .i64 (i : Nat) ∧ wr = w.drewN m) (fun iv _ => L.length - (intOf iv).toNat)
  case atStart => exact ⟨0, 0, Nat.zero_le _, rfl, rfl⟩
  case round =>
    obtain ⟨i, m, hi, rfl, rfl⟩ := hrel
    by_cases hlt : i < L.length
    · rcases HA.out with e | ⟨ga, oa, rfl, _, hca⟩
      · rw [e] at hlt; simp at hlt
      · rcases HB.out with e | ⟨gb, ob, rfl, _, hcb⟩
        · rw [e] at hlt; simp at hlt
        · obtain ⟨d0, d1⟩ := hca i hlt
          obtain ⟨e0, e1⟩ := hcb i hlt
          obtain ⟨x, hx⟩ : ∃ x, L[i] = x := ⟨_, rfl⟩
          rw [hx] at d0 d1 e0 e1
          obtain ⟨x1, x2⟩ := x
          simp only at d0 d1 e0 e1
          have hlt' : (i : Int) < (L.length : Int) := by omega
          clear hca hcb hx
          go_wp2_with fail
          go_quiet (fail)
          all_goals go_wp2
          go_roundw
          case rel => exact ⟨i + 1, m + nq, by omega, by go_num, rfl⟩
          case measure => simp [intOf]; omega
    · obtain rfl : i = L.length := by omega
      go_wp2
      go_ret
      exact ⟨rfl, ⟨rfl, rfl, rfl, Nat.le_refl _, fun _ _ => rfl⟩⟩
end Go.Proofs.YtgmljgogmbaioaaGreatDoor

/- Both caches side by side. -/
namespace Go.Proofs.YtgmljgogmbaioaaGreatDoor
open Go.RowKit
set_option linter.unusedVariables false
set_option maxRecDepth 4000

/-- The code's cache and the document's, and the places that were taken. -/
structure Duo (w0 wr : World) (L M : Nat → Nat) (cb rb tb P W : Nat) (mc mr : List Sg) (ta : Option Addr) (tl : List Int) (tn tc : Nat) : Prop where
  ca : Ca wr L cb P W mc
  rf : Rf wr M rb P W mr
  okc : Okc P W mc
  okr : Okc P W mr
  dis : ∀ k, L k = 0 ∨ M k = 0
  lowL : ∀ k, k < w0.heap.size → L k = 0
  lowM : ∀ k, k < w0.heap.size → M k = 0
  tbx : wr.heap[tb]? = some (.cells #[.slice ta tn tc] 34 (0, 0))
  tz : L tb = 0 ∧ M tb = 0
  tg : w0.heap.size ≤ tb
  own : OwnsI wr w0.heap.size ta tl tc
  taz : ∀ g, ob ta = some g → L g = 0 ∧ M g = 0
  tlb : ∀ x ∈ tl, 0 ≤ x ∧ x ≤ 1048576
  tln : tl.length = tn
  bel : Below w0.heap.size w0 wr
  two : 2 ≤ w0.heap.size
theorem OwnsI.lt {w : World} {B : Nat} {a : Option Addr} {l : List Int} {c : Nat} (h : OwnsI w B a l c) : ∀ g, ob a = some g → g < w.heap.size := fun g hg => by
  obtain ⟨_, ⟨h1, _⟩ | ⟨g', c', cur, h1, _, h2, _⟩⟩ := h
  · injection h1 with e1; subst e1; cases hg
  · cases h1; cases hg; exact hlt h2
theorem OwnsI.same {w w' : World} {B : Nat} {a : Option Addr} {l : List Int} {c : Nat} (h : OwnsI w B a l c) (he : ∀ g o, ob a = some g → w.heap[g]? = some o → w'.heap[g]? = some o) : OwnsI w' B a l c := by
  obtain ⟨h0, h1 | ⟨g, c', cur, h1, hb, h3, h4⟩⟩ := h
  · exact ⟨h0, .inl h1⟩
  · exact ⟨h0, .inr ⟨g, c', cur, h1, hb, he g _ (by cases h1; rfl) h3, h4⟩⟩
theorem Duo.sz {w0 wr : World} {L M : Nat → Nat} {cb rb tb P W : Nat} {mc mr : List Sg} {ta : Option Addr} {tl : List Int} {tn tc : Nat} (h : Duo w0 wr L M cb rb tb P W mc mr ta tl tn tc) : 2 ≤ wr.heap.size := Nat.le_trans h.two h.bel.size
/-- A call that reads. -/
theorem Duo.below {w0 wr w' : World} {L M : Nat → Nat} {cb rb tb P W : Nat} {mc mr : List Sg} {ta : Option Addr} {tl : List Int} {tn tc : Nat} (h : Duo w0 wr L M cb rb tb P W mc mr ta tl tn tc) (hb : Below wr.heap.size wr w') : Duo w0 w' (lab L wr.heap.size 0) (lab M wr.heap.size 0) cb rb tb P W mc mr ta tl tn tc := by
  have e := lab_ext wr L 0
  have f := lab_ext wr M 0
  have hs := h.bel.size
  refine ⟨h.ca.keep e hb, h.rf.same f h.sz (fun k o ho _ => by rw [hb.block k (hlt ho)]; exact ho), h.okc, h.okr, fun k => ?_, fun k hk => ?_, fun k hk => ?_, bblock hb h.tbx, ?_, h.tg, h.own.keep hb, fun g hg => ?_, h.tlb, h.tln, h.bel.trans (hb.mono hs), h.two⟩
  · by_cases hk : k < wr.heap.size
    · rw [e k hk, f k hk]; exact h.dis k
    · exact .inl (lab_new (by omega))
  · rw [e k (by omega)]; exact h.lowL k hk
  · rw [f k (by omega)]; exact h.lowM k hk
  · rw [e tb (hlt h.tbx), f tb (hlt h.tbx)]; exact h.tz
  · have := h.own.lt g hg
    rw [e g this, f g this]; exact h.taz g hg
/-- A call of the code's. -/
theorem Duo.code {w0 wr w' : World} {L M : Nat → Nat} {cb rb tb P W : Nat} {mc mr mc' : List Sg} {ta : Option Addr} {tl : List Int} {tn tc : Nat} (h : Duo w0 wr L M cb rb tb P W mc mr ta tl tn tc) (hl : Left L wr cb P W mc' w') (hf : Fit W P 0 mc') : ∃ L', Duo w0 w' L' (lab M wr.heap.size 0) cb rb tb P W mc' mr ta tl tn tc := by
  obtain ⟨L', hC, hM⟩ := hl
  have f := lab_ext wr M 0
  have hs := h.bel.size
  have st : ∀ k o, wr.heap[k]? = some o → L k = 0 → w'.heap[k]? = some o := fun k o hk hz => hM.tu.block k o hk (fun e => e hz)
  refine ⟨L', hC, h.rf.same f h.sz (fun k o ho hz => st k o ho ((h.dis k).resolve_right hz)), h.okc.fit' hf, h.okr, fun k => ?_, fun k hk => ?_, fun k hk => ?_, st _ _ h.tbx h.tz.1, ?_, h.tg, h.own.same (fun g o hg ho => st g o ho (h.taz g hg).1), fun g hg => ?_, h.tlb, h.tln, h.bel.trans (hM.tu.below (fun i e => ?_) hs), h.two⟩
  · by_cases hk : k < wr.heap.size
    · rw [hM.ext k hk, f k hk]; exact h.dis k
    · exact .inr (lab_new (by omega))
  · rw [hM.ext k (by omega)]; exact h.lowL k hk
  · rw [f k (by omega)]; exact h.lowM k hk
  · rw [hM.ext tb (hlt h.tbx), f tb (hlt h.tbx)]; exact h.tz
  · have := h.own.lt g hg
    rw [hM.ext g this, f g this]; exact h.taz g hg
  · rcases Nat.lt_or_ge i w0.heap.size with k | k
    · exact absurd (h.lowL i k) e
    · exact k
/-- A call of the document's. -/
theorem Duo.ref {w0 wr w' : World} {L M : Nat → Nat} {cb rb tb P W : Nat} {mc mr mr' : List Sg} {ta : Option Addr} {tl : List Int} {tn tc : Nat} (h : Duo w0 wr L M cb rb tb P W mc mr ta tl tn tc) (hl : LeftR M wr rb P W mr' w') (hf : Fit W P 0 mr') : ∃ M', Duo w0 w' (lab L wr.heap.size 0) M' cb rb tb P W mc mr' ta tl tn tc := by
  obtain ⟨M', hC, hM⟩ := hl
  have e := lab_ext wr L 0
  have hs := h.bel.size
  have h2 := h.two
  have st : ∀ k o, wr.heap[k]? = some o → M k = 0 → w'.heap[k]? = some o := fun k o hk hz => hM.tu.block k o hk (fun e => e hz)
  have tu : Tu (fun k => (L k = 0 ∧ k ≠ 0 ∧ k ≠ 1) ∨ wr.heap.size ≤ k) wr w' := hM.tu.mono (fun k hk hz => .inl ⟨(h.dis k).resolve_right hz, fun e0 => by subst e0; exact hz (h.lowM 0 (by omega)), fun e0 => by subst e0; exact hz (h.lowM 1 (by omega))⟩)
  refine ⟨M', h.ca.beside e tu, hC, h.okc, h.okr.fit' hf, fun k => ?_, fun k hk => ?_, fun k hk => ?_, st _ _ h.tbx h.tz.2, ?_, h.tg, h.own.same (fun g o hg ho => st g o ho (h.taz g hg).2), fun g hg => ?_, h.tlb, h.tln, h.bel.trans (hM.tu.below (fun i e => ?_) hs), h.two⟩
  · by_cases hk : k < wr.heap.size
    · rw [e k hk, hM.ext k hk]; exact h.dis k
    · exact .inl (lab_new (by omega))
  · rw [e k (by omega)]; exact h.lowL k hk
  · rw [hM.ext k (by omega)]; exact h.lowM k hk
  · rw [e tb (hlt h.tbx), hM.ext tb (hlt h.tbx)]; exact h.tz
  · have := h.own.lt g hg
    rw [e g this, hM.ext g this]; exact h.taz g hg
  · rcases Nat.lt_or_ge i w0.heap.size with k | k
    · exact absurd (h.lowM i k) e
    · exact k
/-- A place more was taken. -/
theorem Duo.took {w0 wr D w' : World} {L M : Nat → Nat} {cb rb tb P W : Nat} {mc mr : List Sg} {ta a' : Option Addr} {tl : List Int} {tn tc c' : Nat} {x : Int} (h : Duo w0 wr L M cb rb tb P W mc mr ta tl tn tc) (hD : Below wr.heap.size wr D) (u : Tu (fun k => ob ta = some k) D w') (o : OwnsI w' w0.heap.size a' (tl ++ [x]) c') (ha : ob a' = ob ta ∨ ob a' = some D.heap.size) (hx : 0 ≤ x ∧ x ≤ 1048576) :
    Duo w0 (w'.setCell ⟨tb, 0, none⟩ (.slice a' (tn + 1) c')) (lab L wr.heap.size 0) (lab M wr.heap.size 0) cb rb tb P W mc mr a' (tl ++ [x]) (tn + 1) c' ∧ w'.frozen? ⟨tb, 0, none⟩ = false := by
  have hd := h.below hD
  have e := lab_ext wr L 0
  have f := lab_ext wr M 0
  have h2 := h.two
  have hs := hd.bel.size
  have tne : ob ta ≠ some tb := own_ne_box h.own h.tbx (by decide)
  have t1 : w'.heap[tb]? = some (.cells #[.slice ta tn tc] 34 (0, 0)) := u.block tb _ hd.tbx tne
  have on : Only tb w' (w'.setCell ⟨tb, 0, none⟩ (.slice a' (tn + 1) c')) := Only.set tb 0 _ w'
  have S : Tu (fun k => ob ta = some k ∨ k = tb) D (w'.setCell ⟨tb, 0, none⟩ (.slice a' (tn + 1) c')) := (u.mono (fun k _ hk => .inl hk)).trans (Tu.ofOnly on (.inr rfl))
  have z : ∀ k, (ob ta = some k ∨ k = tb) → lab L wr.heap.size 0 k = 0 ∧ lab M wr.heap.size 0 k = 0 ∧ w0.heap.size ≤ k := fun k hk => by
    rcases hk with hk | rfl
    · exact ⟨(hd.taz k hk).1, (hd.taz k hk).2, h.own.ge k hk⟩
    · exact ⟨hd.tz.1, hd.tz.2, h.tg⟩
  refine ⟨⟨hd.ca.beside (Ext.refl _ _) (S.mono (fun k _ hk => .inl ⟨(z k hk).1, by have := (z k hk).2.2; omega, by have := (z k hk).2.2; omega⟩)), hd.rf.same (Ext.refl _ _) hd.sz (fun k o ho hz => S.block k o ho (fun hk => hz (z k hk).2.1)), h.okc, h.okr, hd.dis, hd.lowL, hd.lowM, ?_, hd.tz, h.tg, ?_, fun g hg => ?_, ?_, by rw [List.length_append, h.tln]; rfl, hd.bel.trans (S.below (fun k hk => (z k hk).2.2) hs), h.two⟩, frozen_of_row _ _ _ _ _ t1⟩
  · rw [heap_put t1]; simp
  · exact o.same (fun g ob' hg ho => by rw [on.block g (fun e' => by subst e'; exact own_ne_box o t1 (by decide) hg)]; exact ho)
  · rcases ha with k | k
    · rw [k] at hg; exact hd.taz g hg
    · rw [k] at hg
      have : D.heap.size = g := Option.some.inj hg
      have := hD.size
      exact ⟨lab_new (by omega), lab_new (by omega)⟩
  · intro y hy
    rcases List.mem_append.1 hy with k | k
    · exact h.tlb y k
    · obtain rfl : y = x := by simpa using k
      exact hx

theorem tellM_ok {W P : Nat} {m : List Sg} (hf : Fit W P 0 m) : ∀ t ∈ m.map tellM, ∀ x ∈ t.l, -9223372036854775808 ≤ x ∧ x ≤ 9223372036854775807 := by
  intro t ht x hx
  obtain ⟨s, hs, rfl⟩ := List.mem_map.1 ht
  obtain ⟨i, rfl, hi, _⟩ := lsL_mem _ _ _ hx
  have := (hf.ok s hs).1
  have f := this.facts
  rw [this.len] at f
  omega
theorem keptI_all {W P : Nat} {m : List Sg} (hf : Fit W P 0 m) (hP : P ≤ 4096) (v c : Int) : ∀ x ∈ keptI W v c m, -9223372036854775808 ≤ x ∧ x ≤ 9223372036854775807 := by
  intro x hx
  unfold keptI at hx
  split at hx
  · obtain ⟨y, hy, rfl⟩ := List.mem_map.1 hx
    obtain ⟨z, hz⟩ := mem_keptM.1 hy
    have := (hz.bound hf).2.1
    have e : Int.ofNat y = (y : Int) := rfl
    rw [e]; omega
  · cases hx
theorem keptI_len {W P : Nat} {m : List Sg} (ho : Okc P W m) (v c : Int) : (keptI W v c m).length ≤ 65536 := by
  unfold keptI
  split
  · rw [List.length_map]
    unfold keptM
    have := pl_take_le ho (keptQ v.toNat c.toNat) m.length
    rw [List.take_length] at this
    exact this
  · simp
theorem Duo.read {w0 wr w' : World} {L M : Nat → Nat} {cb rb tb P W : Nat} {mc mr : List Sg} {ta : Option Addr} {tl : List Int} {tn tc : Nat} (h : Duo w0 wr L M cb rb tb P W mc mr ta tl tn tc) (hb : Below wr.heap.size wr w') : ∃ L' M', Duo w0 w' L' M' cb rb tb P W mc mr ta tl tn tc := ⟨_, _, h.below hb⟩
set_option maxRecDepth 20000 in
set_option maxHeartbeats 2000000 in
theorem msame_any (w0 wr : World) (L M : Nat → Nat) (cb rb tb P W : Nat) (m : List Sg) (ta : Option Addr) (tl : List Int) (tn tc : Nat) (v c : Int) (h : Duo w0 wr L M cb rb tb P W m m ta tl tn tc) :
    Calls Tryz.prog 15 #[.pointer (some ⟨cb, 0, none⟩), .pointer (some ⟨rb, 0, none⟩), .int .i64 v, .int .i64 c] wr fun e w' => e = .returned (.bool true) ∧ Below wr.heap.size wr w' := by
  have H : Hid (Duo w0 wr L M cb rb tb P W m m ta tl tn tc) := h
  have HP := h.okc.p1
  have hml := h.okc.fit.len
  have FLN := free_len (W := W) (P := P) (m := m) (a := 0)
  have HTO := tellM_ok h.okc.fit
  have KA := keptI_all h.okc.fit HP v c
  have KL := keptI_len h.okc v c
  obtain ⟨ts, hts⟩ : ∃ ts, m.map tellM = ts := ⟨_, rfl⟩
  have TS : Hid (m.map (tellT W m) = ts) := (tell_same h.okc.fit).trans hts
  have TM : Hid (m.map tellM = ts) := hts
  have htl : ts.length = m.length := by rw [← hts, List.length_map]
  rw [hts] at HTO
  obtain ⟨nt, hnt⟩ : ∃ nt, ts.length = nt := ⟨_, rfl⟩
  have NT : Hid (ts.length = nt) := hnt
  obtain ⟨F, hF⟩ : ∃ F, freeM P 0 m = F := ⟨_, rfl⟩
  have HF : Hid (freeM P 0 m = F) := hF
  rw [hF] at FLN
  obtain ⟨nf, hnf⟩ : ∃ nf, F.length = nf := ⟨_, rfl⟩
  have NF : Hid (F.length = nf) := hnf
  obtain ⟨kl, hkl⟩ : ∃ kl, keptI W v c m = kl := ⟨_, rfl⟩
  have HK : Hid (keptI W v c m = kl) := hkl
  rw [hkl] at KA KL
  obtain ⟨nk, hnk⟩ : ∃ nk, kl.length = nk := ⟨_, rfl⟩
  have NK : Hid (kl.length = nk) := hnk
  have BL : Hid (ts.length ≤ 9000000000000000000 ∧ F.length ≤ 65536 ∧ kl.length ≤ maxLen) := ⟨by omega, by omega, by unfold maxLen; omega⟩
  have HTO' : Hid (∀ t ∈ ts, ∀ x ∈ t.l, -9223372036854775808 ≤ x ∧ x ≤ 9223372036854775807) := HTO
  have HKA : Hid (∀ x ∈ kl, -9223372036854775808 ≤ x ∧ x ≤ 9223372036854775807) := KA
  clear h hml FLN HTO KA KL hts htl hnt hF hnf hkl hnk
  go_enter Tryz.func15, Tryz.ntmps15
  go_wp2_with fail
  refine (kspans_any L cb P W m _ H.out.ca H.out.okc).mono ?_
  rw [TS.out]
  rintro e w1 ⟨v1, rfl, t1, b1⟩
  obtain ⟨a1, c1, rfl⟩ := t1.form
  rw [NT.out] at t1 ⊢
  obtain ⟨L1, M1, d1⟩ := H.out.read b1
  have D1 : Hid (Duo w0 w1 L1 M1 cb rb tb P W m m ta tl tn tc) := d1
  have B1 : Hid (Below wr.heap.size wr w1) := b1
  have R1 : Hid (RdT w1 a1 ts) := t1.rd HTO'.out
  clear t1 b1 d1
  go_wp2_with fail
  refine (mdata_any M1 rb P W m _ D1.out.rf D1.out.okr D1.out.sz).mono ?_
  rw [TM.out]
  rintro e w2 ⟨v2, rfl, t2, b2⟩
  obtain ⟨a2, c2, rfl⟩ := t2.form
  rw [NT.out] at t2 ⊢
  obtain ⟨L2, M2, d2⟩ := D1.out.read b2
  have D2 : Hid (Duo w0 w2 L2 M2 cb rb tb P W m m ta tl tn tc) := d2
  have B2 : Hid (Below wr.heap.size wr w2) := B1.out.trans (b2.mono B1.out.size)
  have R2 : Hid (RdT w2 a1 ts) := R1.out.keep b2
  have R3 : Hid (RdT w2 a2 ts) := t2.rd HTO'.out
  clear t2 b2 d2 D1 R1
  go_wp2_with fail
  refine (rall_rd a1 a2 nt c1 nt c2 ts _ R2.out R3.out NT.out NT.out BL.out.1).mono ?_
  rintro e w3 ⟨rfl, b3⟩
  obtain ⟨L3, M3, d3⟩ := D2.out.read b3
  have D3 : Hid (Duo w0 w3 L3 M3 cb rb tb P W m m ta tl tn tc) := d3
  have B3 : Hid (Below wr.heap.size wr w3) := B2.out.trans (b3.mono B2.out.size)
  clear b3 d3 D2 R2 R3
  go_wp2_with fail
  refine (kfree_any L3 cb P W m _ D3.out.ca D3.out.okc).mono ?_
  rw [HF.out, NF.out]
  rintro e w4 ⟨rfl, r4, b4⟩
  obtain ⟨L4, M4, d4⟩ := D3.out.read b4
  have D4 : Hid (Duo w0 w4 L4 M4 cb rb tb P W m m ta tl tn tc) := d4
  have B4 : Hid (Below wr.heap.size wr w4) := B3.out.trans (b4.mono B3.out.size)
  have F4 : Hid (UIsL w4 (some ⟨w3.heap.size, 0, none⟩) F) := by have := r4.isL (l := F) 0 (by simp); show UIsL _ _ _; simpa using this
  clear r4 b4 d4 D3
  go_wp2_with fail
  refine (mfree_any M4 rb P W m _ D4.out.rf D4.out.okr D4.out.sz).mono ?_
  rw [HF.out, NF.out]
  rintro e w5 ⟨a5, c5, rfl, l5, b5⟩
  obtain ⟨L5, M5, d5⟩ := D4.out.read b5
  have D5 : Hid (Duo w0 w5 L5 M5 cb rb tb P W m m ta tl tn tc) := d5
  have B5 : Hid (Below wr.heap.size wr w5) := B4.out.trans (b5.mono B4.out.size)
  have F5 : Hid (UIsL w5 (some ⟨w3.heap.size, 0, none⟩) F) := F4.out.keep b5
  have G5 : Hid (UIsL w5 a5 F) := l5.isL
  clear l5 b5 d5 D4 F4
  go_wp2_with fail
  refine (usame_any (some ⟨w3.heap.size, 0, none⟩) a5 nf nf nf c5 F _ F5.out G5.out NF.out NF.out BL.out.2.1).mono ?_
  rintro e w6 ⟨rfl, b6⟩
  obtain ⟨L6, M6, d6⟩ := D5.out.read b6
  have D6 : Hid (Duo w0 w6 L6 M6 cb rb tb P W m m ta tl tn tc) := d6
  have B6 : Hid (Below wr.heap.size wr w6) := B5.out.trans (b6.mono B5.out.size)
  clear b6 d6 D5 F5 G5
  go_wp2_with fail
  refine (kkept_any L6 cb P W m v c _ D6.out.ca D6.out.okc kl HK.out).mono ?_
  rw [NK.out]
  rintro e w7 ⟨a7, c7, rfl, o7, b7⟩
  obtain ⟨L7, M7, d7⟩ := D6.out.read b7
  have D7 : Hid (Duo w0 w7 L7 M7 cb rb tb P W m m ta tl tn tc) := d7
  have B7 : Hid (Below wr.heap.size wr w7) := B6.out.trans (b7.mono B6.out.size)
  have I7 : Hid (IsI w7 a7 kl) := ownsI_isI HKA.out o7
  clear o7 b7 d7 D6
  go_wp2_with fail
  refine (mkept_any M7 rb P W m v c _ D7.out.rf D7.out.okr D7.out.sz kl HK.out).mono ?_
  rw [NK.out]
  rintro e w8 ⟨a8, c8, rfl, o8, b8⟩
  have B8 : Hid (Below wr.heap.size wr w8) := B7.out.trans (b8.mono B7.out.size)
  have I8 : Hid (IsI w8 a7 kl) := I7.out.keep b8
  have J8 : Hid (IsI w8 a8 kl) := ownsI_isI HKA.out o8
  clear o8 b8 D7 I7
  go_wp2_with fail
  refine (ints_true a7 a8 nk nk c7 c8 kl _ I8.out J8.out NK.out.symm NK.out.symm BL.out.2.2).mono ?_
  rintro e w9 ⟨rfl, b9⟩
  have B9 : Hid (Below wr.heap.size wr w9) := B8.out.trans (b9.mono B8.out.size)
  clear b9
  go_wp2
  go_ret
  exact ⟨rfl, B9.out⟩
end Go.Proofs.YtgmljgogmbaioaaGreatDoor

/- Both caches: a call of each, answered alike. -/
namespace Go.Proofs.YtgmljgogmbaioaaGreatDoor
open Go.RowKit
set_option linter.unusedVariables false
set_option maxRecDepth 4000

/-- What do leaves. -/
def Done (w0 : World) (cb rb tb P W : Nat) (w' : World) : Prop := ∃ L M m ta tl tn tc, Duo w0 w' L M cb rb tb P W m m ta tl tn tc ∧ tn ≤ 1000000000000
theorem take_fit {W P : Nat} {v n : Int} {m : List Sg} (h : Fit W P 0 m) : Fit W P 0 (takeM P W v n m).2.2 := by
  cases e : (takeM P W v n m) with
  | mk a r =>
    obtain ⟨b, m'⟩ := r
    by_cases hb : b = 0
    · subst hb
      exact (take_ok h e).fit
    · have : m' = m := by
        unfold takeM at e
        split at e
        · cases e; rfl
        · split at e
          · split at e
            · cases e; rfl
            · cases e; exact absurd rfl hb
          · split at e
            · cases e; rfl
            · cases e; exact absurd rfl hb
      show Fit W P 0 m'
      rw [this]; exact h
theorem take_place {W P : Nat} {v n : Int} {m : List Sg} (h : Fit W P 0 m) (hP : P ≤ 4096) : (takeM P W v n m).1 ≤ 1048576 := by
  cases e : (takeM P W v n m) with
  | mk a r =>
    obtain ⟨b, m'⟩ := r
    show a ≤ _
    by_cases hb : b = 0
    · subst hb
      have t := take_ok h e
      obtain ⟨z, c, hin, _⟩ := t.here
      have := (hin.bound t.fit).2.1
      omega
    · unfold takeM at e
      split at e
      · cases e; omega
      · split at e
        · split at e
          · cases e; omega
          · cases e; exact absurd rfl hb
        · split at e
          · cases e; omega
          · cases e; exact absurd rfl hb
theorem give_fit {W P : Nat} {v x : Int} {m : List Sg} (h : Fit W P 0 m) : Fit W P 0 (giveM W v x m).2 := by
  cases e : (giveM W v x m) with
  | mk b m' =>
    by_cases hb : b = 0
    · subst hb
      exact (give_ok h e).2.fit
    · have : m' = m := by
        unfold giveM at e
        split at e
        · cases e; rfl
        · split at e
          · cases e; rfl
          · split at e
            · cases e; exact absurd rfl hb
            · cases e; exact absurd rfl hb
      show Fit W P 0 m'
      rw [this]; exact h
/-- A block that is neither cache's. -/
def Fr (w : World) (L M : Nat → Nat) (k : Nat) (o : Obj) : Prop := w.heap[k]? = some o ∧ L k = 0 ∧ M k = 0
theorem Duo.read2 {w0 wr w' : World} {L M : Nat → Nat} {cb rb tb P W : Nat} {mc mr : List Sg} {ta : Option Addr} {tl : List Int} {tn tc : Nat} (h : Duo w0 wr L M cb rb tb P W mc mr ta tl tn tc) (hb : Below wr.heap.size wr w') : ∃ L' M', Duo w0 w' L' M' cb rb tb P W mc mr ta tl tn tc ∧ (∀ k o, Fr wr L M k o → Fr w' L' M' k o) ∧ ∀ k, wr.heap.size ≤ k → L' k = 0 ∧ M' k = 0 := by
  refine ⟨_, _, h.below hb, fun k o ⟨h1, h2, h3⟩ => ⟨bblock hb h1, ?_, ?_⟩, fun k hk => ⟨lab_new hk, lab_new hk⟩⟩
  · rw [lab_ext wr L 0 k (hlt h1)]; exact h2
  · rw [lab_ext wr M 0 k (hlt h1)]; exact h3
theorem Duo.code2 {w0 wr w' : World} {L M : Nat → Nat} {cb rb tb P W : Nat} {mc mr mc' : List Sg} {ta : Option Addr} {tl : List Int} {tn tc : Nat} (h : Duo w0 wr L M cb rb tb P W mc mr ta tl tn tc) (hl : Left L wr cb P W mc' w') (hf : Fit W P 0 mc') : ∃ L' M', Duo w0 w' L' M' cb rb tb P W mc' mr ta tl tn tc ∧ ∀ k o, Fr wr L M k o → Fr w' L' M' k o := by
  obtain ⟨L', hC, hM⟩ := hl
  have hl' : Left L wr cb P W mc' w' := ⟨L', hC, hM⟩
  have f := lab_ext wr M 0
  have hs := h.bel.size
  have st : ∀ k o, wr.heap[k]? = some o → L k = 0 → w'.heap[k]? = some o := fun k o hk hz => hM.tu.block k o hk (fun e => e hz)
  refine ⟨L', lab M wr.heap.size 0, ⟨hC, h.rf.same f h.sz (fun k o ho hz => st k o ho ((h.dis k).resolve_right hz)), h.okc.fit' hf, h.okr, fun k => ?_, fun k hk => ?_, fun k hk => ?_, st _ _ h.tbx h.tz.1, ?_, h.tg, h.own.same (fun g o hg ho => st g o ho (h.taz g hg).1), fun g hg => ?_, h.tlb, h.tln, h.bel.trans (hM.tu.below (fun i e => ?_) hs), h.two⟩, fun k o ⟨h1, h2, h3⟩ => ⟨st k o h1 h2, by rw [hM.ext k (hlt h1)]; exact h2, by rw [f k (hlt h1)]; exact h3⟩⟩
  · by_cases hk : k < wr.heap.size
    · rw [hM.ext k hk, f k hk]; exact h.dis k
    · exact .inr (lab_new (by omega))
  · rw [hM.ext k (by omega)]; exact h.lowL k hk
  · rw [f k (by omega)]; exact h.lowM k hk
  · rw [hM.ext tb (hlt h.tbx), f tb (hlt h.tbx)]; exact h.tz
  · have := h.own.lt g hg
    rw [hM.ext g this, f g this]; exact h.taz g hg
  · rcases Nat.lt_or_ge i w0.heap.size with k | k
    · exact absurd (h.lowL i k) e
    · exact k
theorem Duo.ref2 {w0 wr w' : World} {L M : Nat → Nat} {cb rb tb P W : Nat} {mc mr mr' : List Sg} {ta : Option Addr} {tl : List Int} {tn tc : Nat} (h : Duo w0 wr L M cb rb tb P W mc mr ta tl tn tc) (hl : LeftR M wr rb P W mr' w') (hf : Fit W P 0 mr') : ∃ L' M', Duo w0 w' L' M' cb rb tb P W mc mr' ta tl tn tc ∧ ∀ k o, Fr wr L M k o → Fr w' L' M' k o := by
  obtain ⟨M', hC, hM⟩ := hl
  have e := lab_ext wr L 0
  have hs := h.bel.size
  have h2 := h.two
  have st : ∀ k o, wr.heap[k]? = some o → M k = 0 → w'.heap[k]? = some o := fun k o hk hz => hM.tu.block k o hk (fun e => e hz)
  have tu : Tu (fun k => (L k = 0 ∧ k ≠ 0 ∧ k ≠ 1) ∨ wr.heap.size ≤ k) wr w' := hM.tu.mono (fun k hk hz => .inl ⟨(h.dis k).resolve_right hz, fun e0 => by subst e0; exact hz (h.lowM 0 (by omega)), fun e0 => by subst e0; exact hz (h.lowM 1 (by omega))⟩)
  refine ⟨lab L wr.heap.size 0, M', ⟨h.ca.beside e tu, hC, h.okc, h.okr.fit' hf, fun k => ?_, fun k hk => ?_, fun k hk => ?_, st _ _ h.tbx h.tz.2, ?_, h.tg, h.own.same (fun g o hg ho => st g o ho (h.taz g hg).2), fun g hg => ?_, h.tlb, h.tln, h.bel.trans (hM.tu.below (fun i e => ?_) hs), h.two⟩, fun k o ⟨h1, h2, h3⟩ => ⟨st k o h1 h3, by rw [e k (hlt h1)]; exact h2, by rw [hM.ext k (hlt h1)]; exact h3⟩⟩
  · by_cases hk : k < wr.heap.size
    · rw [e k hk, hM.ext k hk]; exact h.dis k
    · exact .inl (lab_new (by omega))
  · rw [e k (by omega)]; exact h.lowL k hk
  · rw [hM.ext k (by omega)]; exact h.lowM k hk
  · rw [e tb (hlt h.tbx), hM.ext tb (hlt h.tbx)]; exact h.tz
  · have := h.own.lt g hg
    rw [e g this, hM.ext g this]; exact h.taz g hg
  · rcases Nat.lt_or_ge i w0.heap.size with k | k
    · exact absurd (h.lowM i k) e
    · exact k
theorem live_ca (L : Nat → Nat) (cb P W : Nat) (m : List Sg) (x : Int) (w : World) (h : Ca w L cb P W m) (ho : Okc P W m) (hx : -9223372036854775808 ≤ x ∧ x ≤ 9223372036854775807) (r : Bool) (hr : liveB m x = r) :
    Calls Tryz.prog 21 #[.pointer (some ⟨cb, 0, none⟩), .int .i64 x] w fun e w' => e = .returned (.bool r) ∧ Below w.heap.size w w' := by
  obtain ⟨fb, hb, a, cap, ps, sh, hC⟩ := h
  exact klive_any L cb fb hb a cap ps sh P W (pgF m) m x w hC ho hx r hr
/-- A call of the statements', in its box. -/
def xcall (kd xw xn : Int) : Obj := .cells #[.int .i64 kd, .int .i64 xw, .int .i64 xn] 37 (0, 0)
/-- Where a call begins: both caches beside its box. -/
theorem Duo.box {w0 wr : World} {L M : Nat → Nat} {cb rb tb P W : Nat} {mc mr : List Sg} {ta : Option Addr} {tl : List Int} {tn tc : Nat} (h : Duo w0 wr L M cb rb tb P W mc mr ta tl tn tc) (kd xw xn : Int) (E : World) (hE : wr.alloc (.cells #[.int .i64 kd, .int .i64 xw, .int .i64 xn] 37) = E) : ∃ L' M', Duo w0 E L' M' cb rb tb P W mc mr ta tl tn tc ∧ Fr E L' M' wr.heap.size (xcall kd xw xn) := by
  have hb : Below wr.heap.size wr E := by rw [← hE]; exact (Below.refl _ wr).alloc (Nat.le_refl _) _
  obtain ⟨L', M', d, _, z⟩ := h.read2 hb
  exact ⟨L', M', d, by rw [← hE]; exact Go.heap_alloc_new wr _, (z _ (Nat.le_refl _)).1, (z _ (Nat.le_refl _)).2⟩
theorem xcell {w : World} {L M : Nat → Nat} {g : Nat} {kd xw xn : Int} (h : Fr w L M g (xcall kd xw xn)) : w.cell? ⟨g, 0, none⟩ = some (.int .i64 kd) ∧ w.cell? ⟨g, 1, none⟩ = some (.int .i64 xw) ∧ w.cell? ⟨g, 2, none⟩ = some (.int .i64 xn) :=
  ⟨cell_of_row _ _ 0 _ _ _ h.1, cell_of_row _ _ 1 _ _ _ h.1, cell_of_row _ _ 2 _ _ _ h.1⟩
theorem Duo.drew {w0 wr : World} {L M : Nat → Nat} {cb rb tb P W : Nat} {mc mr : List Sg} {ta : Option Addr} {tl : List Int} {tn tc : Nat} (h : Duo w0 wr L M cb rb tb P W mc mr ta tl tn tc) (n : Nat) : Duo w0 (wr.drewN n) L M cb rb tb P W mc mr ta tl tn tc := by
  have hb : Below wr.heap.size wr (wr.drewN n) := ⟨rfl, rfl, rfl, Nat.le_refl _, fun _ _ => rfl⟩
  exact ⟨h.ca.keep (Ext.refl _ _) hb, h.rf.same (Ext.refl _ _) h.sz (fun k o ho _ => ho), h.okc, h.okr, h.dis, h.lowL, h.lowM, h.tbx, h.tz, h.tg, h.own.keep hb, h.taz, h.tlb, h.tln, h.bel.trans (hb.mono h.bel.size), h.two⟩
end Go.Proofs.YtgmljgogmbaioaaGreatDoor
