/- What workers keep, laid anew; what takeSmall, takeLarge and Take do. -/
import Derived.Test.YtgmljgogmbaioaaGreatDoorKaHI
import Derived.Test.YtgmljgogmbaioaaGreatDoorPuC
namespace Go.Proofs.YtgmljgogmbaioaaGreatDoor
open Go.RowKit
set_option linter.unusedVariables false
set_option maxRecDepth 4000

theorem kof_is (m : List Sg) : Kof m = Kf m := rfl
/-- What a worker keeps of a class is another list. -/
theorem Cm.shelf_put {w w1 : World} {L L' : Nat → Nat} {cb fb hb : Nat} {a : Option Addr} {cap : Nat} {ps : List Nat} {sh : List Value} {P W : Nat} {φ : Nat → Bool} {m : List Sg} {K : Nat → Nat → List Nat} (h : Cm w L cb fb hb a cap ps sh P W φ m K) (hL : Ext w L L') (v c : Nat) (hv : v < W) (hc : c < 7) (ht : Tu (fun k => L k = 6 + 2 * (v * 7 + c) ∨ w.heap.size ≤ k) w w1) (a1 : Option Addr) (l1 : List Nat) (cap1 : Nat) (hva : VAt w1 (fun k => L' k = 6 + 2 * (v * 7 + c)) 3 a1 (l1.map numV) cap1) :
    Cm (w1.setCell ⟨hb, v * 7 + c, none⟩ (.slice a1 l1.length cap1)) L' cb fb hb a cap ps (sh.set (v * 7 + c) (.slice a1 l1.length cap1)) P W φ m (upd K v c l1) ∧ Mv L w L' (w1.setCell ⟨hb, v * 7 + c, none⟩ (.slice a1 l1.length cap1)) := by
  have hhb := hlt h.hrow
  have hlh := h.lh
  have b1 : w1.heap[hb]? = some (.cells sh.toArray 99 (0, 0)) := ht.block hb _ h.hrow (by rintro (e | e) <;> omega)
  have hO : Only hb w1 (w1.setCell ⟨hb, v * 7 + c, none⟩ (.slice a1 l1.length cap1)) := Only.set hb _ _ w1
  have ht2 : Tu (fun k => (L k = 4 ∨ L k = 6 + 2 * (v * 7 + c)) ∨ w.heap.size ≤ k) w (w1.setCell ⟨hb, v * 7 + c, none⟩ (.slice a1 l1.length cap1)) :=
    (ht.mono (fun k _ hk => by rcases hk with e | e; exact .inl (.inr e); exact .inr e)).trans (Tu.ofOnly hO (.inl (.inl hlh)))
  have s := h.stayZ (fun l => l = 4 ∨ l = 6 + 2 * (v * 7 + c)) (by omega) hL ht2
  have hidx : v * 7 + c < sh.length := by rw [h.shl]; have : v * 7 + 7 ≤ W * 7 := by have := Nat.mul_le_mul_right 7 hv; omega
                                          omega
  refine ⟨⟨s.tab, s.l0, s.l1, s.box (by omega), s.lb, s.free (by omega), s.row (by omega), h.plen, fun i hi => s.spans i hi _ (by omega), ?_, s.lh, by rw [List.length_set]; exact h.shl, fun v' c' hv' hc' => ?_⟩, Mv.of (fun l => l = 4 ∨ l = 6 + 2 * (v * 7 + c)) (by omega) hL ht2⟩
  · rw [heap_setCell_same w1 hb _ _ _ _ b1]
    congr 2
    simp
  · by_cases e : v' = v ∧ c' = c
    · obtain ⟨rfl, rfl⟩ := e
      refine ⟨a1, cap1, by rw [List.getElem?_set, if_pos rfl, if_pos hidx, upd_at], ?_⟩
      rw [upd_at]
      exact hva.same (old_only hO (by rw [hL hb hhb]; omega))
    · have hne : v' * 7 + c' ≠ v * 7 + c := by omega
      obtain ⟨a2, cap2, k1, k2⟩ := s.shelf v' c' hv' hc' (by omega)
      refine ⟨a2, cap2, ?_, ?_⟩
      · rw [List.getElem?_set, if_neg (by omega)]; unfold upd; rw [if_neg e]; exact k1
      · unfold upd; rw [if_neg e]; exact k2
/-- Lists of a call's own get a part. -/
theorem Cm.relab {w : World} {L L' : Nat → Nat} {cb fb hb : Nat} {a : Option Addr} {cap : Nat} {ps : List Nat} {sh : List Value} {P W : Nat} {φ : Nat → Bool} {m : List Sg} {K : Nat → Nat → List Nat} (h : Cm w L cb fb hb a cap ps sh P W φ m K) (hW : W ≤ 8) (hL : ∀ k, L k ≠ 1000 → L' k = L k) : Cm w L' cb fb hb a cap ps sh P W φ m K := by
  have hm : ∀ l2 i, l2 ≠ 1000 → i < w.heap.size → L i = l2 → L' i = l2 := fun l2 i h2 _ e => (hL i (by omega)).trans e
  refine ⟨h.tab, hm _ _ (by omega) h.tab.1.1 h.l0, hm _ _ (by omega) h.tab.2.1 h.l1, h.box, hm _ _ (by omega) (hlt h.box) h.lb, h.free.mono (fun i hi e => hm 2 i (by omega) hi e), h.row.mono (fun i hi e => hm 3 i (by omega) hi e), h.plen, fun i hi => (h.spans i hi).mono (fun j hj e => hm _ j (by omega) hj e), h.hrow, hm _ _ (by omega) (hlt h.hrow) h.lh, h.shl, fun v c hv hc => ?_⟩
  obtain ⟨a', cap', h1, h2⟩ := h.shelf v c hv hc
  exact ⟨a', cap', h1, h2.mono (fun i hi e => hm _ i (by omega) hi e)⟩
/-- The same memory tells of other states. -/
theorem Cm.restate {w : World} {L : Nat → Nat} {cb fb hb : Nat} {a : Option Addr} {cap : Nat} {ps : List Nat} {sh : List Value} {P W : Nat} {φ : Nat → Bool} {m m' : List Sg} {K : Nat → Nat → List Nat} (h : Cm w L cb fb hb a cap ps sh P W φ m K) (hl : m'.length = m.length) (he : ∀ i (hi : i < m.length), (m'[i]'(by omega)).pg = m[i].pg ∧ (m'[i]'(by omega)).cl = m[i].cl ∧ (m'[i]'(by omega)).bts = m[i].bts ∧ (m'[i]'(by omega)).f = m[i].f) : Cm w L cb fb hb a cap ps sh P W φ m' K := by
  refine ⟨h.tab, h.l0, h.l1, by rw [hl]; exact h.box, h.lb, h.free, h.row, by rw [hl]; exact h.plen, fun i hi => ?_, h.hrow, h.lh, h.shl, h.shelf⟩
  have hi' : i < m.length := by omega
  obtain ⟨e1, e2, e3, e4⟩ := he i hi'
  obtain ⟨b, g, h1, h2⟩ := h.spans i hi'
  rw [e1]
  refine ⟨b, g, ?_, h2⟩
  rw [e1, e2, e3, e4]
  exact h1
theorem Cm.turned {w : World} {L : Nat → Nat} {cb fb hb : Nat} {a : Option Addr} {cap : Nat} {ps : List Nat} {sh : List Value} {P W : Nat} {φ : Nat → Bool} {m : List Sg} {K : Nat → Nat → List Nat} (h : Cm w L cb fb hb a cap ps sh P W φ m K) (g : Nat → Nat → Nat → Nat) (hg : ∀ s ∈ m, ∀ j x, s.st[j]? = some x → (g (s.at j) s.cl x = 0 ↔ x = 0)) : Cm w L cb fb hb a cap ps sh P W φ (turnM g m) K := by
  refine h.restate (by simp [turnM]) (fun i hi => ?_)
  have e : (turnM g m)[i]'(by simpa [turnM] using hi) = m[i].turn g := by simp [turnM]
  rw [e]
  exact ⟨rfl, rfl, rfl, turn_f (fun j x hx => hg _ (List.getElem_mem hi) j x hx)⟩
/-- The cache in memory, all told. -/
def Ca (w : World) (L : Nat → Nat) (cb P W : Nat) (m : List Sg) : Prop := ∃ fb hb a cap ps sh, Cm w L cb fb hb a cap ps sh P W (pgF m) m (Kof m)
theorem ent_some : (match Tryz.prog.funcs[99]? with | some fn => !(fn.name == "runtime.NumGoroutine") && !fn.body.isNone | none => false) = true := by kernel_rfl
theorem ent_delI : (match Tryz.prog.funcs[96]? with | some fn => !(fn.name == "runtime.NumGoroutine") && !fn.body.isNone | none => false) = true := by kernel_rfl
theorem delI_q (S : Nat → Prop) (g n : Nat) (l : List Value) (cap i j : Nat) (w : World) (h : VAt w S 3 (some ⟨g, 0, none⟩) l cap) (hij : i < j) (hj : j ≤ n) (hn : l.length = n) (hl : n ≤ 100000) (h1 : ∀ v ∈ l, v.oneCell' = true) :
    Calls Tryz.prog 96 #[.slice (some ⟨g, 0, none⟩) n cap, .int .i64 (i : Nat), .int .i64 (j : Nat)] w fun e w' => ∃ n', e = .returned (.slice (some ⟨g, 0, none⟩) n' cap) ∧ (l.take i ++ l.drop j).length = n' ∧ VAt w' S 3 (some ⟨g, 0, none⟩) (l.take i ++ l.drop j) cap ∧ Only g w w' := by
  subst hn
  refine (delI_any S g l cap i j w h hij hj hl h1).mono ?_
  rintro e w' ⟨rfl, h⟩
  exact ⟨_, rfl, rfl, h⟩
set_option maxHeartbeats 1000000 in
/-- A worker that keeps some takes the first. -/
theorem small_head (L : Nat → Nat) (cb fb hb : Nat) (a : Option Addr) (cap : Nat) (ps : List Nat) (sh : List Value) (P W : Nat) (m : List Sg) (v c x : Nat) (l : List Nat) (w : World) (h : Cm w L cb fb hb a cap ps sh P W (pgF m) m (Kof m)) (ho : Okc P W m) (hv : v < W) (hc : c < 7) (hx : keptM v c m = x :: l) :
    ∃ g ck, w.cell? ⟨hb, v * 7 + c, none⟩ = some (.slice (some ⟨g, 0, none⟩) (l.length + 1) ck) ∧ w.frozen? ⟨hb, v * 7 + c, none⟩ = false ∧ w.cell? ⟨g, 0, none⟩ = some (.int .i64 (x : Nat)) ∧ g ≠ hb ∧ g < w.heap.size ∧
      Calls Tryz.prog 96 #[.slice (some ⟨g, 0, none⟩) (l.length + 1) ck, .int .i64 0, .int .i64 1] w (fun e w' => ∃ n' : Nat, e = .returned (.slice (some ⟨g, 0, none⟩) n' ck) ∧ w'.cell? ⟨hb, v * 7 + c, none⟩ = some (.slice (some ⟨g, 0, none⟩) (l.length + 1) ck) ∧ w'.frozen? ⟨hb, v * 7 + c, none⟩ = false ∧ Ca (w'.setCell ⟨hb, v * 7 + c, none⟩ (.slice (some ⟨g, 0, none⟩) n' ck)) L cb P W (setM x 1 m) ∧ Mv L w L (w'.setCell ⟨hb, v * 7 + c, none⟩ (.slice (some ⟨g, 0, none⟩) n' ck))) := by
  obtain ⟨ak, ck, k1, k2, k3⟩ := h.kept v c hv hc
  have hK : Kof m v c = x :: l := hx
  rw [hK] at k1 k3
  obtain ⟨g, rfl, hg, hgl, k4, _⟩ := k3.at 0 (by simp)
  have hgh : g ≠ hb := fun e => by have := h.lh; rw [e] at hg; omega
  refine ⟨g, ck, k1, k2, by simpa [numV] using k4, hgh, hgl, ?_⟩
  have hlen := Kof_ok ho v c
  rw [hK] at hlen
  have hl1 := hlen.2
  simp only [List.length_cons] at hl1
  refine (delI_q _ g (l.length + 1) ((x :: l).map numV) ck 0 1 w k3 (by omega) (by omega) (by simp) hl1 (nums_one _)).mono ?_
  rintro e w' ⟨n', rfl, hn', r1, r2⟩
  have e1 : ((x :: l).map numV).take 0 ++ ((x :: l).map numV).drop 1 = l.map numV := by simp
  rw [e1] at r1 hn'
  rw [List.length_map] at hn'
  subst hn'
  obtain ⟨C, M⟩ := h.shelf_put (Ext.refl w L) v c hv hc (Tu.ofOnly r2 (.inl hg)) _ l ck r1
  obtain ⟨q1, q2⟩ := kof_take ho.fit hv hx
  have z1 : w'.cell? ⟨hb, v * 7 + c, none⟩ = some (.slice (some ⟨g, 0, none⟩) (l.length + 1) ck) := by rw [r2.cell (p := ⟨hb, v * 7 + c, none⟩) (fun e => hgh e.symm)]; exact k1
  have z2 : w'.frozen? ⟨hb, v * 7 + c, none⟩ = false := by rw [r2.frozen (p := ⟨hb, v * 7 + c, none⟩) (fun e => hgh e.symm)]; exact k2
  refine ⟨l.length, rfl, z1, z2, ⟨fb, hb, a, cap, ps, sh.set (v * 7 + c) (.slice (some ⟨g, 0, none⟩) l.length ck), ?_⟩, M⟩
  rw [show pgF (setM x 1 m) = pgF m from pgF_turn _ _, kof_is, q1]
  refine C.turned _ (fun s hs j y hy => ?_)
  by_cases e : s.at j = x
  · rw [if_pos e]
    obtain ⟨z, hz⟩ := mem_keptM.1 (show x ∈ keptM v c m by rw [hx]; exact List.mem_cons_self)
    have hin : In m x s.z s.cl y := ⟨s, hs, j, hy, e.symm, rfl, rfl⟩
    have := (hin.one ho.fit hz).2.2
    omega
  · rw [if_neg e]
end Go.Proofs.YtgmljgogmbaioaaGreatDoor
