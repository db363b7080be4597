/- Layer 15: KaG again -/
import Derived.Test.YtgdjlopnhecmjaaGreatDoorGzAR
import Derived.Test.YtgdjlopnhecmjaaGreatDoorGzAJ
import Derived.Test.YtgdjlopnhecmjaaGreatDoorGzAE
namespace Go.Proofs.YtgdjlopnhecmjaaGreatDoor
open Go.RowKit
set_option linter.unusedVariables false
set_option maxRecDepth 4000
theorem insP_q (S : Nat → Prop) (a : Option Addr) (q : Nat) (l : List Value) (n cap i : Nat) (v : Value) (w : World) (h : VAt w S 190 a l cap) (hS : ∀ k, w.heap.size ≤ k → S k) (hn : l.length = n) (hi : i ≤ n) (hl : n ≤ 100000) (h1 : ∀ v ∈ l, v.oneCell' = true) (hv : v.oneCell' = true) (hq : w.heap[q]? = some (.cells #[v] 190 (0, 0))) (hne : ∀ g, ob a = some g → q ≠ g) :
    Calls Tryz.prog 233 #[.slice a n cap, .int .i64 (i : Nat), .slice (some ⟨q, 0, none⟩) 1 1] w fun e w' => ∃ a' cap', e = .returned (.slice a' (n + 1) cap') ∧ VAt w' S 190 a' (l.take i ++ v :: l.drop i) cap' ∧ Tu (fun k => ob a = some k) w w' ∧ (ob a' = ob a ∨ ob a' = some w.heap.size) := by
  subst hn; exact insP_any S a q l cap i v w h hS hi hl h1 hv hq hne
theorem ptrs_ins (ps : List Nat) (i p : Nat) : (ps.take i ++ p :: ps.drop i).map ptrV = (ps.map ptrV).take i ++ ptrV p :: (ps.map ptrV).drop i := by rw [List.map_append, List.map_cons, List.map_take, List.map_drop]
theorem VAt.ob_in {w : World} {S : Nat → Prop} {t : TypeId} {a : Option Addr} {l : List Value} {cap : Nat} (h : VAt w S t a l cap) : ∀ k, ob a = some k → S k ∧ k < w.heap.size := fun k hk => by
  rcases h with ⟨e, _⟩ | ⟨g, cur, e, hg, hh, _⟩
  · rw [e] at hk; cases hk
  · rw [e] at hk; cases hk; exact ⟨hg, hlt hh⟩
/-- The list of spans is stored. -/
theorem begin_end {w2 w4 : World} {L2 : Nat → Nat} {cb fb hb : Nat} {a a' : Option Addr} {cap cap' : Nat} {ps : List Nat} {sh : List Value} {P W : Nat} {φ : Nat → Bool} {m : List Sg} {K : Nat → Nat → List Nat} (h : Cm w2 L2 cb fb hb a cap ps sh P W φ m K) (i : Nat) (hi : i ≤ m.length) (t : Sg) (p : Nat) (hsp : SpS w2 (fun k => L2 k = 5 + 2 * t.pg) p t)
    (ht : Tu (fun k => L2 k = 3 ∨ w2.heap.size ≤ k) w2 w4) (hv : VAt w4 (fun k => L2 k = 3 ∨ w2.heap.size ≤ k) 190 a' ((ps.take i ++ p :: ps.drop i).map ptrV) cap') :
    Cm (w4.setCell ⟨cb, 1, none⟩ (.slice a' (m.length + 1) cap')) (lab L2 w2.heap.size 3) cb fb hb a' cap' (ps.take i ++ p :: ps.drop i) sh P W φ (m.take i ++ t :: m.drop i) K ∧ cMv L2 w2 (lab L2 w2.heap.size 3) (w4.setCell ⟨cb, 1, none⟩ (.slice a' (m.length + 1) cap')) := by
  have hcb := hlt h.box
  have hlb := h.lb
  have b4 : w4.heap[cb]? = some (.cells #[.pointer (some ⟨fb, 0, none⟩), .slice a m.length cap, .slice (some ⟨hb, 0, none⟩) W W] 189 (0, 0)) := ht.block cb _ h.box (by rintro (e | e) <;> omega)
  have hO : Only cb w4 (w4.setCell ⟨cb, 1, none⟩ (.slice a' (m.length + 1) cap')) := Only.set cb 1 _ w4
  have ht5 : Tu (fun k => (L2 k = 1 ∨ L2 k = 3) ∨ w2.heap.size ≤ k) w2 (w4.setCell ⟨cb, 1, none⟩ (.slice a' (m.length + 1) cap')) :=
    (ht.mono (fun k _ hk => by rcases hk with e | e; exact .inl (.inr e); exact .inr e)).trans (Tu.ofOnly hO (.inl (.inl hlb)))
  have hE := lab_ext w2 L2 3
  refine ⟨h.laid hE ht5 i hi t p ((hsp.mono (fun k hk e => (hE k hk).trans e)).same (keepZ (Z := fun l => l = 1 ∨ l = 3) hE ht5 (by omega)) ht5.size) ?_ ?_, cMv.of (fun l => l = 1 ∨ l = 3) (by omega) hE ht5⟩
  · refine (hv.mono (fun k _ hk => ?_)).same (old_only hO ?_)
    · rcases hk with e | e
      · unfold lab; split
        · exact e
        · rfl
      · exact lab_new e
    · rw [hE cb hcb]; omega
  · rw [heap_setCell_same w4 cb 1 _ _ _ b4]; rfl
theorem fresh_f (p c b : Nat) : (fresh p c b 0).f = fun _ => false := by
  funext j
  unfold Sg.f fresh
  refine decide_eq_false (fun h => h ?_)
  simp only [List.getD]
  rcases Nat.lt_or_ge j (slN (c : Int)) with e | e
  · rw [List.getElem?_replicate, if_pos e]; rfl
  · rw [List.getElem?_replicate, if_neg (by omega)]; rfl
/-- What begin leaves. -/
def BeginP (L : Nat → Nat) (w : World) (cb fb hb P W : Nat) (m : List Sg) (K : Nat → Nat → List Nat) (c b : Nat) : Option Nat → Ending → World → Prop
  | none => fun e w' => e = .returned (.pointer none) ∧ ∃ L' a cap ps sh, Cm w' L' cb fb hb a cap ps sh P W (pgF m) m K ∧ cMv L w L' w'
  | some pg => fun e w' => ∃ (p i : Nat) (L' : Nat → Nat) (a : Option Addr) (cap : Nat) (ps : List Nat) (sh : List Value), e = .returned (.pointer (some ⟨p, 0, none⟩)) ∧ Cm w' L' cb fb hb a cap ps sh P W (pgF (ins (fresh pg c b 0) m)) (ins (fresh pg c b 0) m) K ∧ cMv L w L' w' ∧ (∀ u : Sg, u.pg = pg → ins u m = m.take i ++ u :: m.drop i) ∧ i ≤ m.length ∧ ps[i]? = some p
set_option maxHeartbeats 1000000 in
theorem kbegin_any (L : Nat → Nat) (cb fb hb : Nat) (a : Option Addr) (cap : Nat) (ps : List Nat) (sh : List Value) (P W : Nat) (m : List Sg) (K : Nat → Nat → List Nat) (c b k : Nat) (w : World) (h : Cm w L cb fb hb a cap ps sh P W (pgF m) m K) (ho : Okc P W m) (hc : c ≤ 7) (hs : c < 7 → b = 0) (hg : c = 7 → ofI (b : Int) = 7) (hk : pgsN (c : Int) (b : Int) = k) :
    Calls Tryz.prog 193 #[.pointer (some ⟨cb, 0, none⟩), .int .i64 (k : Nat), .int .i64 (c : Nat), .int .i64 (b : Nat)] w (BeginP L w cb fb hb P W m K c b (layP P k 0 m)) := by
  have HC : Hid (Cm w L cb fb hb a cap ps sh P W (pgF m) m K) := h
  have HO : Hid (Okc P W m) := ho
  have c0 := h.cell0
  have hP := ho.p1
  have hml := ho.fit.len
  have OKT : Hid (∀ pg, (fresh pg c b 0).Ok W) := fun pg => fresh_ok hc hs hg (by omega) (fun _ => by omega)
  have EK : Hid (∀ pg, (fresh pg c b 0).k = k) := fun pg => hk
  have k1 : 1 ≤ k := by have := (OKT.out 0).facts; rw [EK.out] at this; omega
  have k16 : k ≤ 16 := by have := (OKT.out 0).facts; rw [EK.out] at this; omega
  have FR : Hid (IsR w (fun j => L j = 2 ∨ w.heap.size ≤ j) fb P (pgF m)) := h.free.mono (fun i _ e => .inl e)
  obtain ⟨o, hl⟩ : ∃ o, layP P k 0 m = o := ⟨_, rfl⟩
  have HL : Hid (layP P k 0 m = o) := hl
  rw [hl]
  clear h ho hl
  go_enter Tryz.func193, Tryz.ntmps193
  go_wp2_with fail
  refine (utake_any (fun j => L j = 2 ∨ w.heap.size ≤ j) fb P (pgF m) (k : Int) _ FR.out (fun i hi => .inr hi) (by omega) (by omega)).mono ?_
  rintro e w1 ⟨x, r, f', rfl, hU, i1, t1⟩
  have L1m : ∀ i, (L i = 2 ∨ w.heap.size ≤ i) → lab L w.heap.size 2 i = 2 := fun i hi => by
    unfold lab; split
    · rcases hi with e | e
      · exact e
      · omega
    · rfl
  have C1 : Hid (Cm w1 (lab L w.heap.size 2) cb fb hb a cap ps sh P W f' m K) := HC.out.freed (lab_ext w L 2) t1 (i1.mono (fun i _ hi => L1m i hi))
  have M1 : Hid (cMv L w (lab L w.heap.size 2) w1) := cMv.of (fun l => l = 2) (by omega) (lab_ext w L 2) t1
  have HT := lay_take HO.out.fit k1
  rw [HL.out] at HT
  rcases hU with ⟨e, _⟩ | ⟨_, hN, rfl, rfl, rfl⟩ | ⟨_, pg, hSm, rfl, rfl, rfl⟩
  · omega
  · rw [Int.toNat_natCast] at hN
    obtain rfl := HT.one hN
    clear hN i1 t1 L1m HT
    go_wp2
    go_ret
    exact ⟨rfl, _, _, _, _, _, C1.out, M1.out⟩
  · rw [Int.toNat_natCast] at hSm
    obtain rfl := HT.one hSm
    have hpk := hSm.1
    rw [Int.toNat_natCast] at C1
    have C1' : Hid (Cm w1 (lab L w.heap.size 2) cb fb hb a cap ps sh P W (pgF (ins (fresh pg c b 0) m)) m K) := by
      have e : pgF (ins (fresh pg c b 0) m) = turnU (pgF m) pg k true := by rw [pgF_ins, EK.out]; rfl
      show Cm _ _ _ _ _ _ _ _ _ _ _ _ _ _
      rw [e]; exact C1.out
    have RT : Rt (pg : Int) (c : Int) (b : Int) := ⟨by omega, by omega, fun e => by have := hs (by omega); omega, fun e => hg (by omega), by omega, by rw [hk]; omega⟩
    have HRT : Hid (Rt (pg : Int) (c : Int) (b : Int)) := RT
    have NE : Hid (newE (pg : Int) (c : Int) (b : Int) = 0) := by
      show _ = _
      rcases newE_cases (pg : Int) (c : Int) (b : Int) with ⟨q, _⟩ | ⟨_, _, q, _⟩ | ⟨_, _, _, _, q, _⟩ | ⟨_, q⟩
      · omega
      · rcases q with ⟨q1, q2⟩ | ⟨q1, q2⟩
        · exact absurd (RT.sm q1) q2
        · exact absurd (RT.lg q1) q2
      · have := RT.p1; omega
      · exact q
    clear RT C1 i1 t1 L1m HT hSm
    go_wp2_with fail
    refine (new_ok (pg : Int) (c : Int) (b : Int) _ C1'.out.tab HRT.out NE.out).mono ?_
    rintro e w2 ⟨sb, bb, gg, rfl, hsp, b2, z1, z2, z3⟩
    have HLC : Hid (Ext w1 (lab L w.heap.size 2) (lab (lab L w.heap.size 2) w1.heap.size (5 + 2 * pg))) := lab_ext _ _ _
    obtain ⟨L2, hL2⟩ : ∃ L2, lab (lab L w.heap.size 2) w1.heap.size (5 + 2 * pg) = L2 := ⟨_, rfl⟩
    have SP2 : Hid (SpS w2 (fun j => L2 j = 5 + 2 * (fresh pg c b 0).pg) sb (fresh pg c b 0)) := ⟨bb, gg, by rw [fresh_f]; exact hsp, by rw [← hL2]; exact lab_new z1, by rw [← hL2]; exact lab_new z2, by rw [← hL2]; exact lab_new z3⟩
    rw [hL2] at HLC
    have C2 : Hid (Cm w2 L2 cb fb hb a cap ps sh P W (pgF (ins (fresh pg c b 0) m)) m K) := C1'.out.keep HLC.out b2
    have M2 : Hid (cMv L w L2 w2) := M1.out.trans (cMv.below HLC.out b2)
    have c1 := C2.out.cell1
    have n1 := World.new_ne w2 _ c1
    have y1 := C2.out.thawed 1
    have BD2 : Hid (Below w2.heap.size w2 ((w2.alloc (.cells #[.pointer (some ⟨sb, 0, none⟩)] 190)).drew)) := ((Below.refl _ w2).alloc (Nat.le_refl _) _).drew
    have QN : Hid ((w2.alloc (.cells #[.pointer (some ⟨sb, 0, none⟩)] 190)).drew.heap[w2.heap.size]? = some (.cells #[.pointer (some ⟨sb, 0, none⟩)] 190 (0, 0))) := Go.heap_alloc_new w2 _
    have VR : Hid (VAt w2 (fun j => L2 j = 3 ∨ w2.heap.size ≤ j) 190 a (ps.map ptrV) cap) := C2.out.row.mono (fun i _ e => .inl e)
    have PL : Hid ((ps.map ptrV).length = m.length) := by show _ = _; rw [List.length_map]; exact C2.out.plen
    have OB : Hid (∀ g, ob a = some g → (L2 g = 3 ∨ w2.heap.size ≤ g) ∧ g < w2.heap.size) := fun g hg => VR.out.ob_in g hg
    have hP2 : (pg : Int) ≤ 4096 := by omega
    have hw2 : IntKind.i64.wrap ((pg : Int) * 256) = (pg : Int) * 256 := by rw [IntKind.wrap_i64]; omega
    clear hsp b2 z1 z2 z3 hL2
    have CA : Hid (Cm w2.drew L2 cb fb hb a cap ps sh P W (pgF (ins (fresh pg c b 0) m)) m K) := C2.out.drew 1
    have CB : Hid (Cm ((w2.alloc (.cells #[.pointer (some ⟨sb, 0, none⟩)] 190)).drew) L2 cb fb hb a cap ps sh P W (pgF (ins (fresh pg c b 0) m)) m K) := C2.out.keep (Ext.refl _ _) BD2.out
    have BA : Hid (∀ w3, Below w2.drew.heap.size w2.drew w3 → Below w2.heap.size w2 w3) := fun _ b => Below.ofDrew b
    have BB : Hid (∀ w3, Below ((w2.alloc (.cells #[.pointer (some ⟨sb, 0, none⟩)] 190)).drew).heap.size ((w2.alloc (.cells #[.pointer (some ⟨sb, 0, none⟩)] 190)).drew) w3 → Below w2.heap.size w2 w3) := fun _ b => BD2.out.trans (b.mono BD2.out.size)
    have QB : Hid (∀ w3, Below ((w2.alloc (.cells #[.pointer (some ⟨sb, 0, none⟩)] 190)).drew).heap.size ((w2.alloc (.cells #[.pointer (some ⟨sb, 0, none⟩)] 190)).drew) w3 → w3.heap[w2.heap.size]? = some (.cells #[.pointer (some ⟨sb, 0, none⟩)] 190 (0, 0))) := fun w3 b => by rw [b.block w2.heap.size (by simp)]; exact QN.out
    have c1a : (w2.alloc (.cells #[.pointer (some ⟨sb, 0, none⟩)] 190)).drew.cell? ⟨cb, 1, none⟩ = some (.slice a m.length cap) := bcell BD2.out c1
    have c1b : (w2.alloc (.cells #[.pointer (some ⟨sb, 0, none⟩)] 190)).cell? ⟨cb, 1, none⟩ = some (.slice a m.length cap) := c1a
    have NCB : Hid (¬ (L2 cb = 3 ∨ w2.heap.size ≤ cb)) := by have := C2.out.lb; have := hlt C2.out.box; show ¬ _; omega
    go_wp2_with fail
    go_region_law (first
      | (have hi4 := hi3; refine step_call rfl 233 _ _ rfl _ rfl _ (insP_q (fun j => L2 j = 3 ∨ w2.heap.size ≤ j) a _ (ps.map ptrV) m.length cap i (ptrV sb) _ (VR.out.keep (by with_reducible first | exact BIA.out | exact B3.out)) (by with_reducible first | exact SZA.out | exact SZB.out) PL.out hi3 (by omega) (ptrs_one ps) rfl (by with_reducible first | exact QIA.out | exact QIB.out) (by with_reducible first | exact NQA.out | exact NQB.out)) ent_insP ?_; rintro e w4 ⟨a', cap', rfl, r1, r2, r3⟩; refine ⟨_, rfl, ?_⟩; rw [← ptrs_ins ps i sb] at r1; have t4 : Tu (fun j => L2 j = 3 ∨ w2.heap.size ≤ j) w2 w4 := (by with_reducible first | exact TA.out _ r2 | exact TB.out _ r2); have T4 : Hid (Tu (fun j => L2 j = 3 ∨ w2.heap.size ≤ j) w2 w4) := t4; have V4 : Hid (VAt w4 (fun j => L2 j = 3 ∨ w2.heap.size ≤ j) 190 a' ((ps.take i ++ sb :: ps.drop i).map ptrV) cap') := r1; have c4 : w4.cell? ⟨cb, 1, none⟩ = some (.slice a m.length cap) := (by rw [T4.out.cell NCB.out (hlt C2.out.box)]; exact c1); have y4 : w4.frozen? ⟨cb, 1, none⟩ = false := (frozen_of_row _ _ 1 _ _ (T4.out.block cb _ C2.out.box NCB.out)); clear r1 r2 r3 t4)
      | (refine step_call rfl 153 _ _ rfl [.pointer (some ⟨cb, 0, none⟩), .int .i64 ((pg : Int) * 256)] (by simp [Act.eval, Act.put]) _ (kfind_any L2 cb fb hb a cap ps sh P W (pgF (ins (fresh pg c b 0) m)) m K _ _ (by with_reducible first | exact CA.out | exact CB.out) HO.out) ent_find ?_; rintro e w3 ⟨i, hF, rfl, b3⟩; refine ⟨_, rfl, ?_⟩; have b3' : Below w2.heap.size w2 w3 := (by with_reducible first | exact BA.out _ b3 | exact BB.out _ b3); have B3 : Hid (Below w2.heap.size w2 w3) := b3'; have HFI : Hid (FindM m (256 * (pg : Int)) i) := (by rw [Int.mul_comm]; exact hF); have C3 : Hid (Cm w3 L2 cb fb hb a cap ps sh P W (pgF (ins (fresh pg c b 0) m)) m K) := C2.out.keep (Ext.refl _ _) B3.out; have c3 := C3.out.cell1; have n3 := World.new_ne w3 _ c3; have c3a : (w3.alloc (.cells #[.pointer (some ⟨sb, 0, none⟩)] 190)).cell? ⟨cb, 1, none⟩ = some (.slice a m.length cap) := bcell ((Below.refl _ w3).alloc (Nat.le_refl _) _) c3; have hi3 := hF.1; have QIA : Hid ((w3.alloc (.cells #[.pointer (some ⟨sb, 0, none⟩)] 190)).heap[w3.heap.size]? = some (.cells #[ptrV sb] 190 (0, 0))) := Go.heap_alloc_new w3 _; have BIA : Hid (Below w2.heap.size w2 (w3.alloc (.cells #[.pointer (some ⟨sb, 0, none⟩)] 190))) := B3.out.alloc B3.out.size _; have NQA : Hid (∀ g, ob a = some g → w3.heap.size ≠ g) := (fun g hg => (by have := (OB.out g hg).2; have := B3.out.size; omega)); have NQB : Hid (∀ g, ob a = some g → w2.heap.size ≠ g) := (fun g hg => (by have := (OB.out g hg).2; omega)); have SZA : Hid (∀ j, (w3.alloc (.cells #[.pointer (some ⟨sb, 0, none⟩)] 190)).heap.size ≤ j → (L2 j = 3 ∨ w2.heap.size ≤ j)) := (fun j hj => .inr (Nat.le_trans BIA.out.size hj)); have SZB : Hid (∀ j, w3.heap.size ≤ j → (L2 j = 3 ∨ w2.heap.size ≤ j)) := (fun j hj => .inr (Nat.le_trans B3.out.size hj)); have TA : Hid (∀ w4, Tu (fun k => ob a = some k) (w3.alloc (.cells #[.pointer (some ⟨sb, 0, none⟩)] 190)) w4 → Tu (fun j => L2 j = 3 ∨ w2.heap.size ≤ j) w2 w4) := (fun w4 r => (Tu.ofBelow BIA.out).trans (r.mono (fun j _ hj => (OB.out j hj).1))); have TB : Hid (∀ w4, Tu (fun k => ob a = some k) w3 w4 → Tu (fun j => L2 j = 3 ∨ w2.heap.size ≤ j) w2 w4) := (fun w4 r => (Tu.ofBelow B3.out).trans (r.mono (fun j _ hj => (OB.out j hj).1))); try (have qib : w3.heap[w2.heap.size]? = some (.cells #[.pointer (some ⟨sb, 0, none⟩)] 190 (0, 0)) := (by with_reducible exact QB.out _ b3); have QIB : Hid (w3.heap[w2.heap.size]? = some (.cells #[ptrV sb] 190 (0, 0))) := qib; clear qib); clear hF b3 b3'))
    all_goals
      go_wp2
      go_ret
      obtain ⟨CE, ME⟩ := begin_end C2.out i hi3 (fresh pg c b 0) sb SP2.out T4.out V4.out
      have EI : ins (fresh pg c b 0) m = m.take i ++ fresh pg c b 0 :: m.drop i := find_ins HO.out.fit (OKT.out pg) (by rw [EK.out]; exact HL.out) HFI.out
      rw [← EI] at CE
      refine ⟨sb, i, _, a', cap', _, sh, rfl, CE, M2.out.trans ME, (fun u hu => find_insU HO.out.fit (OKT.out pg) (by rw [EK.out]; exact HL.out) HFI.out hu), hi3, ?_⟩
      · have := C2.out.plen
        rw [List.getElem?_append_right (by simp; omega)]; simp [Nat.min_eq_left (by omega : i ≤ ps.length)]
end Go.Proofs.YtgdjlopnhecmjaaGreatDoor

/- Layer 15: KaH again -/
namespace Go.Proofs.YtgdjlopnhecmjaaGreatDoor
open Go.RowKit
set_option linter.unusedVariables false
set_option maxRecDepth 4000
theorem kfill_nil (w : World) : Calls Tryz.prog 192 #[.slice none 0 0, .pointer none] w fun e w' => e = .returned (.slice none 0 0) ∧ w = w' := by
  go_enter Tryz.func192, Tryz.ntmps192
  go_wp2
  go_loopw [0] (fun av wr => av = .slice none 0 0 ∧ w = wr) (fun _ _ => 0)
  case atStart => exact ⟨rfl, rfl⟩
  case round =>
    obtain ⟨rfl, rfl⟩ := hrel
    go_wp2_with (go_at_call 182; refine (take_nil _).mono ?_; rintro e w' ⟨rfl, rfl⟩)
    go_ret
    exact ⟨rfl, rfl⟩
theorem kfill_q (v : Nat) (p n : Nat) (s : Sg) (T S : Nat → Prop) (a : Option Addr) (l : List Nat) (cap W : Nat) (w : World) (hs : SpS w T p s) (ok : s.Ok W) (hT : Tabs w) (rt : Rt (s.pg : Int) (s.cl : Int) (s.bts : Int)) (hV : VAt w S 3 a (l.map numV) cap) (hS : ∀ k, w.heap.size ≤ k → S k) (ha : Apt T S) (hl : l.length ≤ 4) (hn : l.length = n) :
    Calls Tryz.prog 192 #[.slice a n cap, .pointer (some ⟨p, 0, none⟩)] w fun e w' => ∃ (a' : Option Addr) (cap' n' : Nat), e = .returned (.slice a' n' cap') ∧ (l ++ (plS s zQ 0 s.st).take (4 - l.length)).length = n' ∧ SpS w' T p { s with st := someSt v (4 - l.length) s.st } ∧ VAt w' S 3 a' ((l ++ (plS s zQ 0 s.st).take (4 - l.length)).map numV) cap' ∧ Tu (fun k => T k ∨ S k) w w' := by
  subst hn
  refine (kfill_any v p s T S a l cap W w hs ok hT rt hV hS ha hl).mono ?_
  rintro e w' ⟨a', cap', rfl, h⟩
  exact ⟨a', cap', _, rfl, rfl, h⟩
/-- A span's slots turned, and lists of the call's own. -/
theorem Cm.spannedT {w w' : World} {L : Nat → Nat} {cb fb hb : Nat} {a : Option Addr} {cap : Nat} {ps : List Nat} {sh : List Value} {P W : Nat} {φ : Nat → Bool} {m : List Sg} {K : Nat → Nat → List Nat} (h : Cm w L cb fb hb a cap ps sh P W φ m K) {a0 : Nat} (hf : Fit W P a0 m) (hW : W ≤ 8) (i : Nat) (hi : i < m.length) (hi' : i < ps.length) (st : List Nat) (ht : Tu (fun k => (L k = 5 + 2 * m[i].pg ∨ L k = 1000) ∨ w.heap.size ≤ k) w w')
    (hs : SpS w' (fun k => L k = 5 + 2 * m[i].pg) ps[i] { m[i] with st := st }) : Cm w' L cb fb hb a cap ps sh P W φ (m.set i { m[i] with st := st }) K := by
  have s := h.stayZ (fun l => l = 5 + 2 * m[i].pg ∨ l = 1000) (by omega) (Ext.refl _ _) ht
  refine ⟨s.tab, s.l0, s.l1, by rw [List.length_set]; exact s.box (by omega), s.lb, s.free (by omega), s.row (by omega), by rw [List.length_set]; exact h.plen, fun j hj => ?_, s.hrow (by omega), s.lh, h.shl, fun v c hv hc => s.shelf v c hv hc (by omega)⟩
  rw [List.length_set] at hj
  rw [List.getElem_set]
  by_cases e : i = j
  · subst e; simp only [if_true]; exact hs
  · simp only [if_neg e]
    refine s.spans j hj _ ?_
    have ok1 := (hf.ok _ (List.getElem_mem hj)).1.facts
    have ok2 := (hf.ok _ (List.getElem_mem hi)).1.facts
    rcases Nat.lt_or_gt_of_ne e with k | k
    · have := (hf.split hj).2 m[i] (by rw [List.mem_iff_getElem]; exact ⟨i, by simp; omega, by simp⟩)
      omega
    · have := (hf.split hi).2 m[j] (by rw [List.mem_iff_getElem]; exact ⟨j, by simp; omega, by simp⟩)
      omega
/-- Under way: the spans up to k were asked. -/
structure SomeW (L0 : Nat → Nat) (cb fb hb : Nat) (a : Option Addr) (cap : Nat) (ps : List Nat) (sh : List Value) (P W : Nat) (m : List Sg) (K : Nat → Nat → List Nat) (v c : Nat) (L : Nat → Nat) (w wr : World) (A : List Sg) (l : List Nat) (k : Nat) (a1 : Option Addr) (cap1 : Nat) : Prop where
  cm : Cm wr L0 cb fb hb a cap ps sh P W (pgF m) (A ++ m.drop k) K
  fit : Fit W P 0 (A ++ m.drop k)
  at' : SomeAt v c m A l k
  va : VAt wr (fun j => L0 j = 1000 ∧ w.heap.size ≤ j) 3 a1 (l.map numV) cap1
  mv : cMv L w L0 wr
theorem SomeW.get {L0 : Nat → Nat} {cb fb hb : Nat} {a : Option Addr} {cap : Nat} {ps : List Nat} {sh : List Value} {P W : Nat} {m : List Sg} {K : Nat → Nat → List Nat} {v c : Nat} {L : Nat → Nat} {w wr : World} {A : List Sg} {l : List Nat} {k : Nat} {a1 : Option Addr} {cap1 : Nat} (h : SomeW L0 cb fb hb a cap ps sh P W m K v c L w wr A l k a1 cap1) (hk : k < m.length) : ∃ hk' : k < (A ++ m.drop k).length, (A ++ m.drop k)[k] = m[k] := by
  have hl := h.at'.len
  refine ⟨by simp; omega, ?_⟩
  rw [List.getElem_append_right (by omega)]
  simp [hl]
theorem set_mid {A B : List Sg} {s t : Sg} {k : Nat} (hA : A.length = k) : (A ++ s :: B).set k t = A ++ t :: B := by
  subst hA
  rw [List.set_append]
  simp
/-- A span of the class was asked. -/
theorem SomeW.fill {L0 : Nat → Nat} {cb fb hb : Nat} {a : Option Addr} {cap : Nat} {ps : List Nat} {sh : List Value} {P W : Nat} {m : List Sg} {K : Nat → Nat → List Nat} {v c : Nat} {L : Nat → Nat} {w wr wn : World} {A : List Sg} {l : List Nat} {k : Nat} {a1 a2 : Option Addr} {cap1 cap2 : Nat} (h : SomeW L0 cb fb hb a cap ps sh P W m K v c L w wr A l k a1 cap1) (hk : k < m.length) (hW : W ≤ 8) (hv : v < W) (hc7 : c < 7) (hc : m[k].cl = c) (hL0 : ∀ j, w.heap.size ≤ j → L0 j = 1000) {p : Nat} (hp : ps[k]? = some p)
    (hs : SpS wn (fun j => L0 j = 5 + 2 * m[k].pg) p { m[k] with st := someSt v (4 - l.length) m[k].st }) (hva : VAt wn (fun j => (L0 j = 1000 ∧ w.heap.size ≤ j) ∨ wr.heap.size ≤ j) 3 a2 ((l ++ (plS m[k] zQ 0 m[k].st).take (4 - l.length)).map numV) cap2) (ht : Tu (fun j => L0 j = 5 + 2 * m[k].pg ∨ ((L0 j = 1000 ∧ w.heap.size ≤ j) ∨ wr.heap.size ≤ j)) wr wn) :
    SomeW L0 cb fb hb a cap ps sh P W m K v c L w wn (A ++ [{ m[k] with st := someSt v (4 - l.length) m[k].st }]) (l ++ (plS m[k] zQ 0 m[k].st).take (4 - l.length)) (k + 1) a2 cap2 := by
  obtain ⟨hk', hg⟩ := h.get hk
  have hl := h.at'.len
  have hd := List.drop_eq_getElem_cons hk
  have hwr := h.mv.tu.size
  have e0 : (A ++ [({ m[k] with st := someSt v (4 - l.length) m[k].st } : Sg)]) ++ m.drop (k + 1) = (A ++ m.drop k).set k { (A ++ m.drop k)[k] with st := someSt v (4 - l.length) m[k].st } := by
    rw [hg, hd, set_mid hl]; simp
  have hpl : k < ps.length := by rw [h.cm.plen]; exact hk'
  have hpe : ps[k] = p := by rw [List.getElem?_eq_getElem hpl] at hp; exact Option.some.inj hp
  have ht' : Tu (fun j => (L0 j = 5 + 2 * m[k].pg ∨ L0 j = 1000) ∨ wr.heap.size ≤ j) wr wn := ht.mono (fun j _ hj => by rcases hj with e | e | e; exact .inl (.inl e); exact .inl (.inr e.1); exact .inr e)
  refine ⟨?_, ?_, h.at'.fill hk hc, hva.mono (fun j _ hj => ?_), h.mv.trans (cMv.of (fun l => l = 5 + 2 * m[k].pg ∨ l = 1000) (by omega) (Ext.refl _ _) ht')⟩
  · rw [e0]
    refine h.cm.spannedT h.fit hW k hk' hpl _ ?_ ?_
    · rw [hg]; exact ht'
    · simp only [hg, hpe]; exact hs
  · rw [e0]
    refine h.fit.set_st _ hk' ?_
    rw [hg]
    have ok := (h.fit.ok _ (List.getElem_mem hk')).1
    rw [hg] at ok
    refine ok.with _ (someSt_len _ _ _) (fun x hx => ?_) (fun e => by omega)
    rcases someSt_mem hx with hx | hx
    · exact ok.w2 x hx
    · omega
  · rcases hj with e | e
    · exact e
    · exact ⟨hL0 j (by omega), by omega⟩
end Go.Proofs.YtgdjlopnhecmjaaGreatDoor
