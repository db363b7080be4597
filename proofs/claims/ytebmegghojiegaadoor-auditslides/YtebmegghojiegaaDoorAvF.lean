/- nameOf, named, bytesOf. -/
import Derived.Test.YtebmegghojiegaaDoorAvE
import Derived.Test.YtebmegghojiegaaDoorAvN
namespace Go.Proofs.YtebmegghojiegaaDoor
open Go.RowKit Go.Maps
set_option linter.unusedVariables false

set_option maxRecDepth 20000 in
set_option maxHeartbeats 2000000 in
theorem nameOf_any (lb ms mi : Nat) (V : Vw) (A : Va) (nf nr : Nat) (f : Int → Option Nat) (i : Nat) (w : World) (h : Lk w lb ms mi V A nf nr f) (hi : i < V.rs.length) (N : Nat) (hN : ofN ((i : Int) + 1) (rwD V.rs i).gen = N) :
    Calls Tryd.prog 57 #[.pointer (some ⟨lb, 0, none⟩), .int .i64 (i : Nat)] w fun e w' => e = .returned (.int .u64 (N : Nat)) ∧ w' = w := by
  have c3 : w.cell? ⟨lb, 3, none⟩ = some (.slice A.ra A.rn A.rc) := cell_of_row _ _ 3 _ _ _ h.box
  have rl := h.vw.rl
  have rz := h.vw.rz
  obtain ⟨b, off, ea, q0, _⟩ := h.vw.rs.at i hi
  rw [ea] at c3
  have hri := h.vw.ri (rwD V.rs i) (by rw [rwD_at hi]; exact List.getElem_mem hi)
  obtain ⟨rn, hrn⟩ : ∃ rn, A.rn = rn := ⟨_, rfl⟩
  rw [hrn] at c3 rl
  have i0 : (i : Int) < (rn : Int) := by omega
  have wi : IntKind.i64.wrap ((i : Int) + 1) = (i : Int) + 1 := by rw [IntKind.wrap_i64]; omega
  have HI : Hid ((i : Int) ≤ 300) := by show (i : Int) ≤ 300; omega
  obtain ⟨g, hg⟩ : ∃ g, (rwD V.rs i).gen = g := ⟨_, rfl⟩
  rw [hg] at q0 hN hri
  have HN : Hid (ofN ((i : Int) + 1) g = N) := hN
  have HG : Hid (i64 g) := hri.2.2
  clear h hN hri hg
  go_enter Tryd.func57, Tryd.ntmps57
  go_wp2_with (go_at_call 77; refine (of_q ((i : Int) + 1) g N _ (by have := HI.out; omega) HG.out HN.out).mono ?_; rintro e w' ⟨rfl, rfl⟩)
  go_ret
  exact ⟨rfl, rfl⟩
set_option maxRecDepth 20000 in
set_option maxHeartbeats 4000000 in
theorem named_any (lb ms mi : Nat) (V : Vw) (A : Va) (nf nr : Nat) (f : Int → Option Nat) (x : Int) (w : World) (h : Lk w lb ms mi V A nf nr f) (hV : Hold V 4) (h0 : 0 ≤ x) (h1 : x ≤ 18446744073709551615) (N : Nat) (hN : nameH V x = N) :
    Calls Tryd.prog 60 #[.pointer (some ⟨lb, 0, none⟩), .int .u64 x] w fun e w' => e = .returned (.int .u64 (N : Nat)) ∧ ∃ q, w' = w.drewN q := by
  have c0 : w.cell? ⟨lb, 0, none⟩ = some (.int .i64 V.base) := cell_of_row _ _ 0 _ _ _ h.box
  have c7 : w.cell? ⟨lb, 7, none⟩ = some (.map (some mi)) := cell_of_row _ _ 7 _ _ _ h.box
  have hg := (hV.r1 (by decide)).2.2.1
  unfold goodR at hg
  obtain ⟨y, hy⟩ : ∃ y, IntKind.i64.wrap (IntKind.u64.wrap (x - V.base)) = y := ⟨_, rfl⟩
  have hyr : i64 y := by unfold i64; rw [← hy, IntKind.wrap_i64]; omega
  have how := own_wrap hV (Nat.le_refl _) h.vw.bz h0 h1
  rw [hy] at how
  have wb : IntKind.u64.wrap V.base = V.base := by rw [IntKind.wrap_u64]; omega
  have LQ := fun n => (h.on.same (w' := w.drewN n) (fun o ho => ho)).look2 hyr
  unfold nameH at hN
  rw [← how] at hN
  obtain ⟨base, hbase⟩ : ∃ base, V.base = base := ⟨_, rfl⟩
  rw [hbase] at c0 hy wb
  obtain ⟨u, hu⟩ : ∃ u, IntKind.u64.wrap (x - base) = u := ⟨_, rfl⟩
  rw [hu] at hy
  have HL : Hid (Lk w lb ms mi V A nf nr f) := h
  cases e : ownI V.rs y with
  | none =>
    rw [e] at LQ hN
    have LQ : ∀ n, (Instr.lookup 80 (.map (some mi)) (.int .i64 y) true).run Tryd.prog (w.drewN n) = .ok (.tuple #[.int .i64 0, .bool false]) (w.drewN n) := LQ
    have hN : 0 = N := hN
    subst hN
    clear h hV hg how e
    go_enter Tryd.func60, Tryd.ntmps60
    go_wp2_with fail
    go_quiet (fail)
    go_wp2
    go_ret
    exact ⟨rfl, _, rfl⟩
  | some j =>
    rw [e] at LQ hN
    have LQ : ∀ n, (Instr.lookup 80 (.map (some mi)) (.int .i64 y) true).run Tryd.prog (w.drewN n) = .ok (.tuple #[.int .i64 (j : Nat), .bool true]) (w.drewN n) := LQ
    have HN : Hid (ofN ((j : Int) + 1) (rwD V.rs j).gen = N) := hN
    have HJ : Hid (j < V.rs.length) := (own_some e).1
    clear h hV hg how e hN
    go_enter Tryd.func60, Tryd.ntmps60
    go_wp2_with fail
    go_quiet (fail)
    go_wp2_with (go_at_call 57; refine (nameOf_any lb ms mi V A nf nr f j _ (HL.out.keep (below_drewN (Below.refl _ _) _)) HJ.out N HN.out).mono ?_; rintro e w' ⟨rfl, rfl⟩)
    go_ret
    exact ⟨rfl, _, rfl⟩
theorem sliceB_run (w : World) (g off n c lo hi : Nat) (h1 : lo ≤ hi) (h2 : hi ≤ c) (h3 : lo < c) : (Instr.slice 25 (.slice (some ⟨g, off, none⟩) n c) (some (.int .i64 (lo : Int))) (some (.int .i64 (hi : Int))) none).run Tryd.prog w = .ok (.slice (some ⟨g, off + lo, none⟩) (hi - lo) (c - lo)) w := by
  have a1 : (lo : Int) ≤ (hi : Int) := by omega
  have a2 : (hi : Int) ≤ (c : Int) := by omega
  have a3 : ¬ c = lo := by omega
  simp [go_sem, Tryd.underlying25, a1, a2, a3, addr_add]
theorem IsB.cut {w : World} {g off : Nat} {l : List Int} (h : IsB w (some ⟨g, off, none⟩) l) (lo n : Nat) (hn : lo + n ≤ l.length) : IsB w (some ⟨g, off + lo, none⟩) ((l.drop lo).take n) := by
  obtain ⟨ha, h⟩ := h
  refine ⟨fun x hx => ha x (List.mem_of_mem_drop (List.mem_of_mem_take hx)), ?_⟩
  rcases h with h | ⟨b, o, e, hb, hc⟩
  · left; subst h; simp
  · cases e
    right
    refine ⟨g, off + lo, rfl, hb, fun i hi => ?_⟩
    rw [List.length_take, List.length_drop] at hi
    have := hc (lo + i) (by omega)
    rw [Nat.add_assoc, this]
    simp only [List.getD_eq_getElem?_getD]
    rw [List.getElem?_take_of_lt (by omega), List.getElem?_drop]
set_option maxRecDepth 20000 in
set_option maxHeartbeats 4000000 in
theorem bytesOf_any (lb ms mi : Nat) (V : Vw) (A : Va) (nf nr : Nat) (f : Int → Option Nat) (i : Nat) (w : World) (h : Lk w lb ms mi V A nf nr f) (hi : i < V.rs.length) (hV : Hold V 4) (gen kd x : Int) (lv : Bool) (hR : rwD V.rs i = ⟨gen, lv, kd, x⟩) (hl : lv = true) (z : Nat) (hz : (knD V.ks kd.toNat).s = (z : Int)) :
    Calls Tryd.prog 59 #[.pointer (some ⟨lb, 0, none⟩), .agg #[.int .i64 gen, .bool lv, .int .i64 kd, .int .i64 x]] w fun e w' => ∃ g o c, e = .returned (.slice (some ⟨g, o, none⟩) z c) ∧ z ≤ c ∧ c ≤ 9223372036854775807 ∧ IsB w' (some ⟨g, o, none⟩) ((V.bs.drop x.toNat).take z) ∧ Below w.heap.size w w' := by
  have hlies := hV.lies (Nat.le_refl _) i hi (by rw [hR]; exact hl)
  have hlive := hV.live (Nat.le_refl _) i hi (by rw [hR]; exact hl)
  rw [hR] at hlies hlive
  simp only at hlies hlive
  rw [hz] at hlies
  obtain ⟨x0, x1, _, z1, z2, _, _⟩ := hlies
  obtain ⟨_, _, k0, k1, _⟩ := hlive
  obtain ⟨kj, rfl⟩ : ∃ kj : Nat, kd = (kj : Int) := ⟨kd.toNat, by omega⟩
  obtain ⟨xn, rfl⟩ : ∃ xn : Nat, x = (xn : Int) := ⟨x.toNat, by omega⟩
  obtain ⟨E, hE⟩ : ∃ E, w.alloc (.cells #[.int .i64 gen, .bool lv, .int .i64 (kj : Int), .int .i64 (xn : Int)] 50) = E := ⟨_, rfl⟩
  have bE : Below w.heap.size w E := by rw [← hE]; exact (Below.refl _ w).alloc (Nat.le_refl _) _
  have rE : E.heap[w.heap.size]? = some (.cells #[.int .i64 gen, .bool lv, .int .i64 (kj : Int), .int .i64 (xn : Int)] 50 (0, 0)) := by rw [← hE]; exact Go.heap_alloc_new w _
  have LE := h.keep bE
  have d2 : E.cell? ⟨w.heap.size, 2, none⟩ = some (.int .i64 (kj : Int)) := cell_of_row _ _ 2 _ _ _ rE
  have d3 : E.cell? ⟨w.heap.size, 3, none⟩ = some (.int .i64 (xn : Int)) := cell_of_row _ _ 3 _ _ _ rE
  have HBE : Hid (Below w.heap.size w E) := bE
  have c2 : E.cell? ⟨lb, 2, none⟩ = some (.slice A.ka A.kn A.kc) := cell_of_row _ _ 2 _ _ _ LE.box
  have c5 : E.cell? ⟨lb, 5, none⟩ = some (.slice A.ba A.bn A.bc) := cell_of_row _ _ 5 _ _ _ LE.box
  have kl := h.vw.kl
  have bl := h.vw.bl
  have bk := h.vw.bk
  have bz := h.vw.bz
  have kz := h.vw.kz
  have hkj : kj < V.ks.length := by omega
  obtain ⟨gk, ok, la, lc, ea, e0, _⟩ := LE.vw.ks kj hkj
  rw [ea] at c2
  rw [Int.toNat_natCast, knD_at hkj] at hz
  rw [hz] at e0
  obtain ⟨gb, ob, hba⟩ : ∃ gb ob, A.ba = some ⟨gb, ob, none⟩ := by
    obtain ⟨_, hh | ⟨gb, ob, e, _⟩⟩ := h.vw.bs
    · rw [hh] at x1; simp at x1; omega
    · exact ⟨gb, ob, e⟩
  have hbs := LE.vw.bs
  rw [hba] at c5 hbs
  have FIN : Hid (IsB E (some ⟨gb, ob + xn, none⟩) ((V.bs.drop xn).take z)) := hbs.cut xn z (by omega)
  obtain ⟨kn, hkn⟩ : ∃ kn, A.kn = kn := ⟨_, rfl⟩
  obtain ⟨bn, hbn⟩ : ∃ bn, A.bn = bn := ⟨_, rfl⟩
  obtain ⟨bc, hbc⟩ : ∃ bc, A.bc = bc := ⟨_, rfl⟩
  rw [hkn] at c2 kl
  rw [hbn] at c5 bl bk
  rw [hbc] at c5 bk
  have kk0 : (kj : Int) < (kn : Int) := by omega
  obtain ⟨en, hen⟩ : ∃ en : Nat, xn + z = en := ⟨_, rfl⟩
  have wz : IntKind.i64.wrap ((xn : Int) + (z : Int)) = (en : Int) := by rw [IntKind.wrap_i64]; omega
  have i1 : (en : Int) ≤ (bc : Int) := by omega
  have i2 : (xn : Int) ≤ (en : Int) := by omega
  have i3 : ¬ (bc = xn) := by omega
  have i6 : IntKind.i64.wrap (xn : Int) = (xn : Int) := by rw [IntKind.wrap_i64]; omega
  have i7 : IntKind.i64.wrap (en : Int) = (en : Int) := by rw [IntKind.wrap_i64]; omega
  have i5 : en - xn = z := by omega
  have BC : Hid (z ≤ bc - xn ∧ bc - xn ≤ 9223372036854775807) := by show _ ∧ _; omega
  have SLR : ∀ w : World, (Instr.slice 25 (.slice (some ⟨gb, ob, none⟩) bn bc) (some (.int .i64 (xn : Int))) (some (.int .i64 (en : Int))) none).run Tryd.prog w = .ok (.slice (some ⟨gb, ob + xn, none⟩) z (bc - xn)) w := fun w => by
    rw [sliceB_run w gb ob bn bc xn en (by omega) (by omega) (by omega), i5]
  obtain ⟨nb, hnb⟩ : ∃ nb, w.heap.size = nb := ⟨_, rfl⟩
  rw [hnb] at d2 d3
  clear h LE hV hR hl x0 x1 z1 z2 k0 k1 rE bE hbs hz kl bl bk bz kz hen
  go_enter Tryd.func59, Tryd.ntmps59
  go_wp2_with fail
  go_quiet (fail)
  go_wp2
  go_ret
  refine ⟨gb, ob + xn, bc - xn, rfl, BC.out.1, BC.out.2, IsB.drewN (by rw [Int.toNat_natCast]; exact FIN.out) _, by first | exact below_drewN HBE.out _ | exact hnb ▸ below_drewN HBE.out _⟩
end Go.Proofs.YtebmegghojiegaaDoor
