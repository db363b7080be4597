/- The document's Great: is a view more than is looked at? -/
import Derived.Test.YtbfamjnnlcopiaaGreatDoorGzAP
import Derived.Test.YtbfamjnnlcopiaaGreatDoorGzBA
import Derived.Deep.RegionLaw
import Derived.BigQuiet
namespace Go.Proofs.YtbfamjnnlcopiaaGreatDoor
open Go.RowKit
set_option linter.unusedVariables false
set_option maxRecDepth 4000

/-- A view that can be read, however great it is. -/
structure Rv0 (w : World) (V : Vw) (A : Va) : Prop where
  kl : V.ks.length = A.kn
  rl : V.rs.length = A.rn
  sl : V.ts.length = A.sn
  bl : V.bs.length = A.bn
  ks : RdK w A.ka V.ks
  rs : IsW w A.ra V.rs
  ts : RdT w A.sa V.ts
  bs : IsB w A.ba V.bs
  bi : i64 V.base
  pi : i64 V.pgs
  ti : ∀ t ∈ V.ts, i64 t.p
  ri : ∀ r ∈ V.rs, i64 r.pl ∧ i64 r.kind ∧ i64 r.gen
  sk : A.sn ≤ A.sc ∧ A.sc ≤ 9223372036854775807
  bk : A.bn ≤ A.bc ∧ A.bc ≤ 9223372036854775807
def SmallV (V : Vw) : Prop := V.pgs ≤ 64 ∧ V.ks.length ≤ 64 ∧ V.rs.length ≤ 300 ∧ V.ts.length ≤ 64 ∧ V.bs.length ≤ 16384
theorem Rv0.small {w : World} {V : Vw} {A : Va} (h : Rv0 w V A) (s : SmallV V) : Rv w V A := ⟨h.kl, h.rl, h.sl, h.bl, h.ks, h.rs, h.ts, h.bs, h.bi, h.pi, h.ti, h.ri, s.2.1, s.2.2.1, s.2.2.2.1, s.2.2.2.2, h.sk, h.bk⟩
theorem Rv0.keep {w w' : World} {V : Vw} {A : Va} (h : Rv0 w V A) (hb : Below w.heap.size w w') : Rv0 w' V A :=
  ⟨h.kl, h.rl, h.sl, h.bl, h.ks.keep hb, h.rs.keep hb, h.ts.keep hb, h.bs.keep hb, h.bi, h.pi, h.ti, h.ri, h.sk, h.bk⟩
def GreatP (w : World) (V : Vw) (e : Ending) (w' : World) : Prop := ∃ r, e = .returned (.bool r) ∧ (r = false → SmallV V) ∧ Below w.heap.size w w'
set_option maxRecDepth 20000 in
set_option maxHeartbeats 4000000 in
theorem great_any (V : Vw) (A : Va) (w : World) (h : Rv0 w V A) :
    Calls Tryz.prog 6 #[.agg #[.int .i64 V.base, .int .i64 V.pgs, .slice A.ka A.kn A.kc, .slice A.ra A.rn A.rc, .slice A.sa A.sn A.sc, .slice A.ba A.bn A.bc]] w fun e w' => GreatP w V e w' := by
  obtain ⟨base, pgs, ks, rs, ts, bs⟩ := V
  obtain ⟨ka, ra, sa, ba, kn, rn, sn, bn, kc, rc, sc, bc⟩ := A
  obtain ⟨E, hE, bE, rE⟩ := vbox w ⟨base, pgs, ks, rs, ts, bs⟩ ⟨ka, ra, sa, ba, kn, rn, sn, bn, kc, rc, sc, bc⟩
  simp only at hE rE
  obtain ⟨nb, hnb⟩ : ∃ nb, w.heap.size = nb := ⟨_, rfl⟩
  rw [hnb] at rE
  have d4 : E.cell? ⟨nb, 4, none⟩ = some (.slice sa sn sc) := cell_of_row _ _ 4 _ _ _ rE
  have HBE : Hid (Below w.heap.size w E) := bE
  have RE : Hid (E.heap[nb]? = some (.cells #[.int .i64 base, .int .i64 pgs, .slice ka kn kc, .slice ra rn rc, .slice sa sn sc, .slice ba bn bc] 27 (0, 0))) := rE
  have HTS : Hid (RdT E sa ts) := h.ts.keep bE
  have HLN : Hid (ks.length = kn ∧ rs.length = rn ∧ ts.length = sn ∧ bs.length = bn) := ⟨h.kl, h.rl, h.sl, h.bl⟩
  have sk : sn ≤ sc ∧ sc ≤ 9223372036854775807 := h.sk
  have s9 : sn ≤ 9223372036854775807 := by omega
  clear h rE bE sk
  go_enter Tryz.func6, Tryz.ntmps6
  go_wp2_with fail
  go_loopw [3, 9] (fun nv iv wz => ∃ (k : Nat) (y : Int), k ≤ sn ∧ iv = .int .i64 (k : Nat) ∧ nv = .int .i64 y ∧ Below E.heap.size E wz) (fun _ iv _ => sn - lenW iv)
  case atStart => exact ⟨0, 0, Nat.zero_le _, rfl, rfl, by first | exact Below.refl _ _ | (rw [← hE]; exact Below.refl _ _)⟩
  case round =>
    obtain ⟨k, y, hk, rfl, rfl, hb⟩ := hrel
    rename World => wz
    have BZ : Hid (Below E.heap.size E wz) := hb
    have FB : Hid (∀ w', Below wz.heap.size wz w' → Below E.heap.size E w' ∧ Below w.heap.size w w') := fun w' b' => by
      have b2 := BZ.out.trans (b'.mono BZ.out.size)
      exact ⟨b2, HBE.out.trans (b2.mono HBE.out.size)⟩
    clear hb
    by_cases hkn : k < sn
    · have hkl : k < ts.length := by rw [HLN.out.2.2.1]; exact hkn
      obtain ⟨g, off, la, lk, rfl, q0, q1, q2, q3, _, _⟩ := (HTS.out.keep BZ.out) k hkl
      obtain ⟨t, ht⟩ : ∃ t, ts[k] = t := ⟨_, rfl⟩
      rw [ht] at q0 q1 q2 q3
      obtain ⟨p, c, s, l⟩ := t
      simp only at q0 q1 q2 q3
      obtain ⟨ll, hll⟩ : ∃ ll, l.length = ll := ⟨_, rfl⟩
      rw [hll] at q3
      obtain ⟨D, hD⟩ : ∃ D, wz.alloc (.cells #[.int .i64 p, .int .i64 c, .int .i64 s, .slice la ll lk] 33) = D := ⟨_, rfl⟩
      have bD : Below wz.heap.size wz D := by rw [← hD]; exact (Below.refl _ wz).alloc (Nat.le_refl _) _
      have rD : D.heap[wz.heap.size]? = some (.cells #[.int .i64 p, .int .i64 c, .int .i64 s, .slice la ll lk] 33 (0, 0)) := by rw [← hD]; exact Go.heap_alloc_new wz _
      have BD := FB.out D bD
      have e3 : D.cell? ⟨wz.heap.size, 3, none⟩ = some (.slice la ll lk) := cell_of_row _ _ 3 _ _ _ rD
      have k0 : (k : Int) < (sn : Int) := by omega
      clear bD rD hll ht
      go_wp2
      go_roundw
      case rel => exact ⟨k + 1, _, by omega, by congr 1, rfl, BD.1⟩
      case measure => simp [lenW]; omega
    · obtain rfl : k = sn := by omega
      have vb : wz.heap[nb]? = _ := (BZ.out.block nb (hlt RE.out)).trans RE.out
      have v1 : wz.cell? ⟨nb, 1, none⟩ = some (.int .i64 pgs) := cell_of_row _ _ 1 _ _ _ vb
      have v2 : wz.cell? ⟨nb, 2, none⟩ = some (.slice ka kn kc) := cell_of_row _ _ 2 _ _ _ vb
      have v3 : wz.cell? ⟨nb, 3, none⟩ = some (.slice ra rn rc) := cell_of_row _ _ 3 _ _ _ vb
      have v4 : wz.cell? ⟨nb, 4, none⟩ = some (.slice sa k sc) := cell_of_row _ _ 4 _ _ _ vb
      have v5 : wz.cell? ⟨nb, 5, none⟩ = some (.slice ba bn bc) := cell_of_row _ _ 5 _ _ _ vb
      have BB := (FB.out wz (Below.refl _ _)).2
      clear vb
      have DONE : Hid (¬ (64 < pgs) → ¬ (64 < (kn : Int)) → ¬ (300 < (rn : Int)) → ¬ (64 < (k : Int)) → ¬ (16384 < (bn : Int)) → SmallV ⟨base, pgs, ks, rs, ts, bs⟩) := fun a1 a2 a3 a4 a5 => by
        obtain ⟨h1, h2, h3, h4⟩ := HLN.out
        refine ⟨?_, ?_, ?_, ?_, ?_⟩ <;> simp only <;> omega
      by_cases a1 : 64 < pgs
      · go_wp2
        go_ret
        exact ⟨true, rfl, (fun e => by cases e), by first | exact BB | exact hnb ▸ BB⟩
      · by_cases a2 : 64 < (kn : Int)
        · go_wp2
          go_ret
          exact ⟨true, rfl, (fun e => by cases e), by first | exact BB | exact hnb ▸ BB⟩
        · by_cases a3 : 300 < (rn : Int)
          · go_wp2
            go_ret
            exact ⟨true, rfl, (fun e => by cases e), by first | exact BB | exact hnb ▸ BB⟩
          · by_cases a4 : 64 < (k : Int)
            · go_wp2
              go_ret
              exact ⟨true, rfl, (fun e => by cases e), by first | exact BB | exact hnb ▸ BB⟩
            · by_cases a6 : 600 < y
              · go_wp2
                go_ret
                exact ⟨true, rfl, (fun e => by cases e), by first | exact BB | exact hnb ▸ BB⟩
              · by_cases a5 : 16384 < (bn : Int)
                · go_wp2
                  go_ret
                  exact ⟨true, rfl, (fun e => by cases e), by first | exact BB | exact hnb ▸ BB⟩
                · have DD := DONE.out a1 a2 a3 a4 a5
                  go_wp2
                  go_ret
                  exact ⟨false, rfl, (fun _ => DD), by first | exact BB | exact hnb ▸ BB⟩
end Go.Proofs.YtbfamjnnlcopiaaGreatDoor

/- A view in memory of one's own. -/
namespace Go.Proofs.YtbfamjnnlcopiaaGreatDoor
open Go.RowKit
set_option linter.unusedVariables false
set_option maxRecDepth 4000

theorem cellsW_set (r : HRw) : ∀ (l : List HRw) (i : Nat), i < l.length → ((((cellsW l).set (i * 4) (.int .i64 r.gen)).set (i * 4 + 1) (.bool r.live)).set (i * 4 + 2) (.int .i64 r.kind)).set (i * 4 + 3) (.int .i64 r.pl) = cellsW (l.set i r)
  | q :: l, 0, _ => rfl
  | q :: l, i + 1, h => by
    have := cellsW_set r l i (by simpa using h)
    rw [show (i + 1) * 4 = i * 4 + 4 by omega]
    show .int .i64 q.gen :: .bool q.live :: .int .i64 q.kind :: .int .i64 q.pl :: ((((cellsW l).set (i * 4) (.int .i64 r.gen)).set (i * 4 + 1) (.bool r.live)).set (i * 4 + 2) (.int .i64 r.kind)).set (i * 4 + 3) (.int .i64 r.pl) = _
    rw [this]
    rfl
theorem Ow.put {w w' : World} {B g c : Nat} {l l' : List HRw} (h : Ow w B (some ⟨g, 0, none⟩) l c) (hl : l'.length = l.length) (k : ∀ cur : Array Value, w.heap[g]? = some (.cells cur 73 (0, 0)) → cur.toList.take (l.length * 4) = cellsW l → ∃ cur' : Array Value, w'.heap[g]? = some (.cells cur' 73 (0, 0)) ∧ cur'.size = cur.size ∧ cur'.toList.take (l.length * 4) = cellsW l') : Ow w' B (some ⟨g, 0, none⟩) l' c := by
  obtain ⟨h0, ⟨h1, _⟩ | ⟨g', c', cur, h1, hb, h2, h3, h4, h5, h6⟩⟩ := h
  · cases h1
  · cases h1
    obtain ⟨cur', k1, k2, k3⟩ := k cur h2 h6
    refine ⟨by rw [cellsW_len], .inr ⟨g, c, cur', by rw [hl], hb, k1, by omega, h4, by omega, by rw [hl]; exact k3⟩⟩
/-- A row put in the place of another. -/
def layW (w : World) (g o : Nat) (r : HRw) : World := (((w.setCell ⟨g, o, none⟩ (.int .i64 r.gen)).setCell ⟨g, o + 1, none⟩ (.bool r.live)).setCell ⟨g, o + 2, none⟩ (.int .i64 r.kind)).setCell ⟨g, o + 3, none⟩ (.int .i64 r.pl)
theorem Ow.set {w : World} {B g c : Nat} {l : List HRw} (h : Ow w B (some ⟨g, 0, none⟩) l c) (i : Nat) (hi : i < l.length) (r : HRw) : Ow (layW w g (i * 4) r) B (some ⟨g, 0, none⟩) (l.set i r) c := by
  refine h.put (by simp) (fun cur hc hk => ?_)
  have h1 := heap_setCell_same w g (i * 4) _ _ (.int .i64 r.gen) hc
  have h2 := heap_setCell_same _ g (i * 4 + 1) _ _ (.bool r.live) h1
  have h3 := heap_setCell_same _ g (i * 4 + 2) _ _ (.int .i64 r.kind) h2
  have h4 := heap_setCell_same _ g (i * 4 + 3) _ _ (.int .i64 r.pl) h3
  refine ⟨_, h4, by simp, ?_⟩
  rw [Array.toList_setIfInBounds, List.take_set, Array.toList_setIfInBounds, List.take_set, Array.toList_setIfInBounds, List.take_set, Array.toList_setIfInBounds, List.take_set, hk, cellsW_set r l i hi]
theorem Ow.isW {w : World} {B : Nat} {a : Option Addr} {l : List HRw} {c : Nat} (h : Ow w B a l c) : IsW w a l := by
  by_cases e : l = []
  · exact .inl e
  · obtain ⟨g, ea, hb, hs, _⟩ := h.cells 0 (by rcases l with _ | ⟨x, l⟩; exact absurd rfl e; simp)
    refine .inr ⟨g, 0, ea, hs, fun i hi => ?_⟩
    obtain ⟨g', ea', _, _, hc⟩ := h.cells i hi
    rw [ea] at ea'
    cases ea'
    simpa using hc
theorem Told.same {w w' : World} {B : Nat} {v : Value} {ts : List Td} (h : Told w B v ts) (he : ∀ (g : Nat) (cur : Array Value) (t : TypeId), w.heap[g]? = some (.cells cur t (0, 0)) → (t = 33 ∨ t = 3) → w'.heap[g]? = some (.cells cur t (0, 0))) : Told w' B v ts := by
  obtain ⟨rs, e1, ⟨k0, k1 | ⟨g, c, cur, k1, k2, k3, k4⟩⟩, e3⟩ := h
  · refine ⟨rs, e1, ⟨k0, .inl k1⟩, fun r hr => (e3 r hr).same (fun g o hg ho => ?_)⟩
    obtain ⟨cur, hc⟩ := (e3 r hr).kind g hg
    rw [ho] at hc; cases hc
    exact he g _ _ ho (.inr rfl)
  · refine ⟨rs, e1, ⟨k0, .inr ⟨g, c, cur, k1, k2, he g _ _ k3 (.inl rfl), k4⟩⟩, fun r hr => (e3 r hr).same (fun g o hg ho => ?_)⟩
    obtain ⟨cur, hc⟩ := (e3 r hr).kind g hg
    rw [ho] at hc; cases hc
    exact he g _ _ ho (.inr rfl)
theorem RowK.same {w w' : World} {B : Nat} {a : Option Addr} {xs : List Kd} {c : Nat} (h : RowK w B a xs c) (he : ∀ (g : Nat) (cur : Array Value), w.heap[g]? = some (.cells cur 66 (0, 0)) → w'.heap[g]? = some (.cells cur 66 (0, 0))) : RowK w' B a xs c := by
  obtain ⟨k0, k1 | ⟨g, c, cur, k1, k2, k3, k4⟩⟩ := h
  · exact ⟨k0, .inl k1⟩
  · exact ⟨k0, .inr ⟨g, c, cur, k1, k2, he g _ k3, k4⟩⟩
/-- Kinds of one's own. -/
def Kow (w : World) (B : Nat) (a : Option Addr) (ks : List Kn) (c : Nat) : Prop := ∃ xs : List Kd, xs.map (fun x => (⟨x.s, x.l⟩ : Kn)) = ks ∧ RowK w B a xs c ∧ ∀ x ∈ xs, OwnsI w B x.a x.l x.c
theorem Kow.nil (w : World) (B : Nat) : Kow w B none [] 0 := ⟨[], rfl, World.ownsRow_nil _ _ _ _, fun x h => by cases h⟩
theorem Kow.same {w w' : World} {B : Nat} {a : Option Addr} {ks : List Kn} {c : Nat} (h : Kow w B a ks c) (he : ∀ (g : Nat) (cur : Array Value) (t : TypeId), w.heap[g]? = some (.cells cur t (0, 0)) → (t = 66 ∨ t = 3) → w'.heap[g]? = some (.cells cur t (0, 0))) : Kow w' B a ks c := by
  obtain ⟨xs, e1, e2, e3⟩ := h
  refine ⟨xs, e1, e2.same (fun g cur hc => he g cur _ hc (.inl rfl)), fun x hx => (e3 x hx).same (fun g o hg ho => ?_)⟩
  obtain ⟨cur, hc⟩ := (e3 x hx).kind g hg
  rw [ho] at hc; cases hc
  exact he g _ _ ho (.inr rfl)
theorem Kow.keep {w w' : World} {B : Nat} {a : Option Addr} {ks : List Kn} {c : Nat} (h : Kow w B a ks c) (hb : Below w.heap.size w w') : Kow w' B a ks c := h.same (fun g cur t hc _ => bblock hb hc)
theorem Kow.rd {w : World} {B : Nat} {a : Option Addr} {ks : List Kn} {c : Nat} (h : Kow w B a ks c) (hi : ∀ k ∈ ks, ∀ x ∈ k.l, -9223372036854775808 ≤ x ∧ x ≤ 9223372036854775807) (hm : ∀ k ∈ ks, k.l.length ≤ maxLen) : RdK w a ks := by
  obtain ⟨xs, e1, e2, e3⟩ := h
  intro i hi'
  have hl : xs.length = ks.length := by rw [← e1, List.length_map]
  have hx : i < xs.length := by omega
  have ek : ks[i] = ⟨xs[i].s, xs[i].l⟩ := by subst e1; simp
  obtain ⟨g, ea, hs, c0, c1⟩ := e2.cells i hx
  have ho := e3 xs[i] (List.getElem_mem hx)
  have hin := hi ks[i] (List.getElem_mem hi')
  have hmx := hm ks[i] (List.getElem_mem hi')
  rw [ek] at hin hmx ⊢
  refine ⟨g, 0, xs[i].a, xs[i].c, ea, by rw [Nat.zero_add]; exact c0, by rw [Nat.zero_add]; exact c1, ownsI_isI hin ho, fun e => ?_, hmx⟩
  obtain ⟨_, ⟨h1, h2⟩ | ⟨g', c', cur, h1, _⟩⟩ := ho
  · injection h1 with _ q1 q2
    exact ⟨List.eq_nil_of_length_eq_zero q1, q2⟩
  · rw [e] at h1; cases h1
/-- A view that lies in blocks of one's own, those of its rows and its bytes named. -/
structure Cpy (w : World) (B : Nat) (V : Vw) (A : Va) (gr gb : Nat) : Prop where
  ra : A.ra = some ⟨gr, 0, none⟩
  ba : A.ba = some ⟨gb, 0, none⟩
  rn : V.rs.length = A.rn
  sn : V.ts.length = A.sn
  bn : V.bs.length = A.bn
  kn : V.ks.length = A.kn
  rows : Ow w B (some ⟨gr, 0, none⟩) V.rs A.rc
  spans : Told w B (.slice A.sa A.sn A.sc) V.ts
  bytes : OwnsB w B (some ⟨gb, 0, none⟩) V.bs A.bc
  kinds : Kow w B A.ka V.ks A.kc
theorem Cpy.keep {w w' : World} {B : Nat} {V : Vw} {A : Va} {gr gb : Nat} (h : Cpy w B V A gr gb) (hb : Below w.heap.size w w') : Cpy w' B V A gr gb :=
  ⟨h.ra, h.ba, h.rn, h.sn, h.bn, h.kn, h.rows.keep hb, h.spans.keep hb, h.bytes.keep hb, h.kinds.keep hb⟩
/-- Bytes turned: the rest stays. -/
theorem Cpy.byted {w w' : World} {B : Nat} {V : Vw} {A : Va} {gr gb : Nat} (h : Cpy w B V A gr gb) {bs : List Int} (tg : Tg gb w w') (ho : OwnsB w' B (some ⟨gb, 0, none⟩) bs A.bc) (hl : bs.length = V.bs.length) : Cpy w' B ⟨V.base, V.pgs, V.ks, V.rs, V.ts, bs⟩ A gr gb := by
  obtain ⟨_, cur, hc⟩ := h.bytes.kind gb rfl
  have he : ∀ (g : Nat) (c : Array Value) (t : TypeId), w.heap[g]? = some (.cells c t (0, 0)) → t ≠ 5 → w'.heap[g]? = some (.cells c t (0, 0)) := fun g c t hg ht => by
    rw [tg.block g (hlt hg) (kind_ne hg hc ht)]; exact hg
  refine ⟨h.ra, h.ba, h.rn, h.sn, hl.trans h.bn, h.kn, h.rows.same (fun g o hg ho => ?_), h.spans.same (fun g c t hg ht => he g c t hg ?_), ho, h.kinds.same (fun g c t hg ht => he g c t hg ?_)⟩
  · obtain ⟨c2, hc2⟩ := h.rows.kind g hg
    rw [ho] at hc2; cases hc2
    exact he g _ _ ho (by decide)
  · rcases ht with rfl | rfl <;> decide
  · rcases ht with rfl | rfl <;> decide
/-- What a view must be, whatever memory it lies in. -/
structure Nums (V : Vw) : Prop where
  ki : ∀ k ∈ V.ks, (∀ x ∈ k.l, -9223372036854775808 ≤ x ∧ x ≤ 9223372036854775807) ∧ k.l.length ≤ maxLen
  si : ∀ t ∈ V.ts, ∀ x ∈ t.l, -9223372036854775808 ≤ x ∧ x ≤ 9223372036854775807
  ab : AllB V.bs
  bi : i64 V.base
  pi : i64 V.pgs
  ti : ∀ t ∈ V.ts, i64 t.p
  ri : ∀ r ∈ V.rs, i64 r.pl ∧ i64 r.kind ∧ i64 r.gen
  kz : V.ks.length ≤ 64
  rz : V.rs.length ≤ 300
  tz : V.ts.length ≤ 64
  bz : V.bs.length ≤ 16384
theorem Rv.nums {w : World} {V : Vw} {A : Va} (h : Rv w V A) : Nums V := by
  refine ⟨fun k hk => ?_, fun t ht => ?_, h.bs.all, h.bi, h.pi, h.ti, h.ri, h.kz, h.rz, h.tz, h.bz⟩
  · obtain ⟨i, hi, rfl⟩ := List.getElem_of_mem hk
    obtain ⟨g, o, la, lc, _, _, _, hI, _, hm⟩ := h.ks i hi
    exact ⟨hI.1, hm⟩
  · obtain ⟨i, hi, rfl⟩ := List.getElem_of_mem ht
    obtain ⟨g, off, la, lk, _, _, _, _, _, hI, _⟩ := h.ts i hi
    exact hI.1
theorem Told.len {w : World} {B : Nat} {a : Option Addr} {n c : Nat} {ts : List Td} (h : Told w B (.slice a n c) ts) : n ≤ c ∧ c ≤ 9223372036854775807 := by
  obtain ⟨rs, _, ⟨_, ⟨k1, k2⟩ | ⟨g, c', cur, k1, _, _, k3, k4, _⟩⟩, _⟩ := h
  · injection k1 with _ q1 q2
    omega
  · cases k1
    unfold maxLen at k4
    omega
theorem Cpy.rv {w : World} {B : Nat} {V : Vw} {A : Va} {gr gb : Nat} (h : Cpy w B V A gr gb) (n : Nums V) : Rv w V A := by
  have hb : A.bn ≤ A.bc ∧ A.bc ≤ 9223372036854775807 := by
    obtain ⟨_, ⟨k1, k2⟩ | ⟨g, c', cur, k1, _, _, k3, k4, _⟩⟩ := h.bytes
    · cases k1
    · cases k1
      unfold maxLen at k4
      have := h.bn
      omega
  refine ⟨h.kn, h.rn, h.sn, h.bn, h.kinds.rd (fun k hk => (n.ki k hk).1) (fun k hk => (n.ki k hk).2), by rw [h.ra]; exact h.rows.isW, h.spans.rd n.si, by rw [h.ba]; exact ownsB_isB n.ab h.bytes, n.bi, n.pi, n.ti, n.ri, n.kz, n.rz, n.tz, n.bz, h.spans.len, hb⟩
end Go.Proofs.YtbfamjnnlcopiaaGreatDoor

/- The document's Copy of a view. -/
namespace Go.Proofs.YtbfamjnnlcopiaaGreatDoor
open Go.RowKit
set_option linter.unusedVariables false
set_option maxRecDepth 4000
set_option linter.unusedSimpArgs false

/-- Just new memory. -/
def Bl (a w : World) : Prop := Below a.heap.size a w
theorem Bl.refl (a : World) : Bl a a := Below.refl _ a
theorem Bl.trans {a b c : World} (h : Bl a b) (k : Bl b c) : Bl a c := Below.trans h (Below.mono k (Below.size h))
theorem Bl.alloc {a b : World} (h : Bl a b) (o : Obj) : Bl a (b.alloc o) := Below.alloc h (Below.size h) _
theorem Bl.drew {a b : World} (h : Bl a b) : Bl a b.drew := below_drewN h 1
theorem Bl.row {a b : World} {g : Nat} {o : Obj} (h : Bl a b) (hg : a.heap[g]? = some o) : b.heap[g]? = some o := bblock h hg
def zV : Array Value := #[.int .i64 0, .int .i64 0, .slice none 0 0, .slice none 0 0, .slice none 0 0, .slice none 0 0]
/-- Rows of any list put behind none: a list of one's own. -/
theorem appW_all (B : Nat) (w : World) (hB : B ≤ w.heap.size) (g0 : Nat) (h : Ow w B (some ⟨g0, 0, none⟩) [] 0) (la : Option Addr) (l : List HRw) (n lk : Nat) (hn : l.length = n) (hI : IsW w la l) (hl : l.length ≤ 300) :
    ∃ g' cap' w', (Builtin.append_ #[23, 23] 23 #[.slice (some ⟨g0, 0, none⟩) 0 0, .slice la n lk]).run Tryz.prog w = .ok (.slice (some ⟨g', 0, none⟩) n cap') w' ∧ Ow w' B (some ⟨g', 0, none⟩) l cap' ∧ Tu (fun k => k = g0) w w' := by
  subst hn
  obtain ⟨i0, hi, hz0, hz2, hz3⟩ := info_parts Tryz.infoW
  cases la with
  | none =>
    have e : l = [] := by
      rcases hI with e | ⟨b, off, e, _⟩
      · exact e
      · cases e
    subst e
    refine ⟨g0, 0, w, ?_, h, Tu.refl _ _⟩
    show (Builtin.append_ #[23, 23] 23 #[.slice (some ⟨g0, 0, none⟩) 0 0, .slice none 0 lk]).run Tryz.prog w = _
    rw [app_nil_cap Tryz.prog w _ _ _ Tryz.undRows hi]
    exact run_append_owned_none (P := Tryz.prog) (w := w) B 23 23 73 i0 4 Tryz.undRows hi _ _ _ h
  | some x =>
    have hc : ∀ j u, (cellsW l)[j]? = some u → w.cell? (x.add j) = some u := fun j u hj => by
      rcases hI with e | ⟨b, off, e, _, hc⟩
      · subst e; simp [cellsW] at hj
      · cases e
        have hlt : j < l.length * 4 := by have := (List.getElem?_eq_some_iff.1 hj).1; rw [cellsW_len] at this; exact this
        have hi2 : j / 4 < l.length := by omega
        rw [addr_add]
        obtain ⟨k0, k1, k2, k3⟩ := cellsW_at l (j / 4) hi2
        obtain ⟨q0, q1, q2, q3⟩ := hc (j / 4) hi2
        rcases (by omega : j % 4 = 0 ∨ j % 4 = 1 ∨ j % 4 = 2 ∨ j % 4 = 3) with e | e | e | e
        · have e' : j / 4 * 4 = j := by omega
          rw [e'] at k0 q0
          rw [q0, ← k0]; exact hj
        · have e' : j / 4 * 4 + 1 = j := by omega
          rw [Nat.add_assoc, e'] at q1
          rw [e'] at k1
          rw [q1, ← k1]; exact hj
        · have e' : j / 4 * 4 + 2 = j := by omega
          rw [Nat.add_assoc, e'] at q2
          rw [e'] at k2
          rw [q2, ← k2]; exact hj
        · have e' : j / 4 * 4 + 3 = j := by omega
          rw [Nat.add_assoc, e'] at q3
          rw [e'] at k3
          rw [q3, ← k3]; exact hj
    obtain ⟨v', w', hr, h2, h3, _, h4⟩ := run_append_own_at (P := Tryz.prog) w B 23 23 73 i0 _ 4 32 Tryz.undRows hi hz0 hz2 hz3 rfl (by decide) (.slice (some ⟨g0, 0, none⟩) 0 0) 0 (cellsW []) h x l.length lk (cellsW l) (cellsW_len l) hc (cellsW_one l) (by unfold maxLen; omega) (by omega) hB
    simp only [Nat.zero_add, cellsW, List.nil_append] at h2
    obtain ⟨a', cap', rfl⟩ := howns_form h2
    have hg : ∃ g', a' = some ⟨g', 0, none⟩ := by
      obtain ⟨_, ⟨k1, k2⟩ | ⟨g, c, cur, k1, _⟩⟩ := h2
      · rw [k1] at h4
        rcases h4 with h4 | h4 <;> cases h4
      · cases k1; exact ⟨_, rfl⟩
    obtain ⟨g', rfl⟩ := hg
    refine ⟨g', cap', w', by simpa using hr, h2, Tu.grown h3 (fun g hg => ?_)⟩
    have : some g0 = some g := hg
    exact (Option.some.inj this).symm
/-- Lists of one's own under way. -/
theorem tu_keeps {w w' : World} {g0 : Nat} {c0 : Array Value} (u : Tu (fun k => k = g0) w w') (h0 : w.heap[g0]? = some (.cells c0 73 (0, 0))) {g : Nat} {c : Array Value} {t : TypeId} (h : w.heap[g]? = some (.cells c t (0, 0))) (ht : t ≠ 73) : w'.heap[g]? = some (.cells c t (0, 0)) :=
  u.block g _ h (fun e => by subst e; rw [h0] at h; cases h; exact ht rfl)
/-- Three worlds in which rows are put behind none, and what is there behind it. -/
theorem rows_put (D : World) (ra : Option Addr) (rs : List HRw) (rn rc : Nat) (hn : rs.length = rn) (hI : IsW D ra rs) (hl : rs.length ≤ 300) :
    (∃ gr rc1 w1, (Builtin.append_ #[23, 23] 23 #[.slice (some ⟨D.heap.size, 0, none⟩) 0 0, .slice ra rn rc]).run Tryz.prog (D.alloc (.cells #[] 73)).drew = .ok (.slice (some ⟨gr, 0, none⟩) rn rc1) w1 ∧ Ow w1 D.heap.size (some ⟨gr, 0, none⟩) rs rc1 ∧ Bl D w1) ∧
    (∃ gr rc1 w1, (Builtin.append_ #[23, 23] 23 #[.slice (some ⟨D.heap.size, 0, none⟩) 0 0, .slice ra rn rc]).run Tryz.prog ((D.alloc (.cells #[] 73)).alloc (.cells zV 27)).drew = .ok (.slice (some ⟨gr, 0, none⟩) rn rc1) w1 ∧ Ow w1 D.heap.size (some ⟨gr, 0, none⟩) rs rc1 ∧ Bl D w1 ∧ w1.heap[D.heap.size + 1]? = some (.cells zV 27 (0, 0))) ∧
    (∃ gr rc1 w1, (Builtin.append_ #[23, 23] 23 #[.slice (some ⟨D.heap.size + 1, 0, none⟩) 0 0, .slice ra rn rc]).run Tryz.prog ((D.alloc (.cells zV 27)).alloc (.cells #[] 73)).drew = .ok (.slice (some ⟨gr, 0, none⟩) rn rc1) w1 ∧ Ow w1 D.heap.size (some ⟨gr, 0, none⟩) rs rc1 ∧ Bl D w1 ∧ w1.heap[D.heap.size]? = some (.cells zV 27 (0, 0))) := by
  have key : ∀ (W : World) (g0 : Nat), Bl D W → D.heap.size ≤ g0 → W.heap[g0]? = some (.cells #[] 73 (0, 0)) → ∃ gr rc1 w1, (Builtin.append_ #[23, 23] 23 #[.slice (some ⟨g0, 0, none⟩) 0 0, .slice ra rn rc]).run Tryz.prog W = .ok (.slice (some ⟨gr, 0, none⟩) rn rc1) w1 ∧ Ow w1 D.heap.size (some ⟨gr, 0, none⟩) rs rc1 ∧ Bl D w1 ∧ Tu (fun k => k = g0) W w1 := fun W g0 hb hg h0 => by
    have o : Ow W D.heap.size (some ⟨g0, 0, none⟩) [] 0 := ⟨rfl, .inr ⟨g0, 0, #[], rfl, hg, h0, Nat.le_refl _, Nat.zero_le _, rfl, rfl⟩⟩
    obtain ⟨gr, rc1, w1, h1, h2, h3⟩ := appW_all D.heap.size W (Below.size hb) g0 o ra rs rn rc hn (hI.keep hb) hl
    exact ⟨gr, rc1, w1, h1, h2, Below.trans hb (h3.below (fun i e => by rw [e]; exact hg) (Below.size hb)), h3⟩
  refine ⟨?_, ?_, ?_⟩
  · obtain ⟨gr, rc1, w1, h1, h2, h3, _⟩ := key (D.alloc (.cells #[] 73)).drew D.heap.size ((Bl.refl D).alloc _).drew (Nat.le_refl _) (Go.heap_alloc_new D _)
    exact ⟨gr, rc1, w1, h1, h2, h3⟩
  · have r0 : ((D.alloc (.cells #[] 73)).alloc (.cells zV 27)).heap[D.heap.size]? = some (.cells #[] 73 (0, 0)) := ((Bl.refl (D.alloc (.cells #[] 73))).alloc _).row (Go.heap_alloc_new D _)
    obtain ⟨gr, rc1, w1, h1, h2, h3, h4⟩ := key ((D.alloc (.cells #[] 73)).alloc (.cells zV 27)).drew D.heap.size (((Bl.refl D).alloc _).alloc _).drew (Nat.le_refl _) r0
    have z : ((D.alloc (.cells #[] 73)).alloc (.cells zV 27)).drew.heap[D.heap.size + 1]? = some (.cells zV 27 (0, 0)) := by
      have z' : ((D.alloc (.cells #[] 73)).alloc (.cells zV 27)).heap[D.heap.size + 1]? = some (.cells zV 27 (0, 0)) := by
        have := Go.heap_alloc_new (D.alloc (.cells #[] 73)) (.cells zV 27)
        simpa using this
      exact z'
    exact ⟨gr, rc1, w1, h1, h2, h3, tu_keeps h4 r0 z (by decide)⟩
  · have r0 : ((D.alloc (.cells zV 27)).alloc (.cells #[] 73)).heap[D.heap.size + 1]? = some (.cells #[] 73 (0, 0)) := by
      have := Go.heap_alloc_new (D.alloc (.cells zV 27)) (.cells #[] 73)
      simpa using this
    obtain ⟨gr, rc1, w1, h1, h2, h3, h4⟩ := key ((D.alloc (.cells zV 27)).alloc (.cells #[] 73)).drew (D.heap.size + 1) (((Bl.refl D).alloc _).alloc _).drew (Nat.le_succ _) r0
    have z : ((D.alloc (.cells zV 27)).alloc (.cells #[] 73)).drew.heap[D.heap.size]? = some (.cells zV 27 (0, 0)) := ((Bl.refl (D.alloc (.cells zV 27))).alloc _).row (Go.heap_alloc_new D _)
    exact ⟨gr, rc1, w1, h1, h2, h3, tu_keeps h4 r0 z (by decide)⟩
end Go.Proofs.YtbfamjnnlcopiaaGreatDoor
