/- What the document's Image answers. -/
import Derived.Test.YtddkmmkhlfjhiaaDlD
namespace Go.Proofs.Ytddkmmkhlfjhiaa
open Go.RowKit Go.Maps
set_option linter.unusedVariables false

theorem wpList_appn {ops : Array Oper} {rest : List Oper} {o : Oper} {a : Act} {Q : Exit → Act → World → Prop} {w : World} (hgd : o.guard = none) (s x : Operand)
    (ho : o.op = .call { callee := .builtin .append, args := #[s, x], argTypes := #[32, 32] })
    (base : Nat) (hbase : base ≤ w.heap.size) (as0 : Option Addr) (L : List Int) (cs n : Nat) (hn : n = L.length) (hs : a.eval s = .slice as0 n cs) (hown : OwnsB w base as0 L cs)
    (ax : Option Addr) (l : List Int) (cx m : Nat) (hm : m = l.length) (hx : a.eval x = .slice ax m cx) (hB : IsB w ax l) (hnil : ax = none → l = [] ∧ cx = 0) (hlen : L.length + l.length ≤ 140737488355328)
    (h : ∀ a' cap' w', OwnsB w' base a' (L ++ l) cap' → Below base w w' → wpList Try.prog ops Q rest (a.put o.dst (.slice a' (L ++ l).length cap')) w') :
    wpList Try.prog ops Q (o :: rest) a w := by
  subst hn hm
  exact wpList_app hgd s x ho base hbase as0 L cs hs hown ax l cx hx hB hnil hlen h

theorem own_none (w : World) (base : Nat) : OwnsB w base none [] 0 := World.ownsRow_nil _ _ _ _

set_option maxHeartbeats 2000000 in
theorem rimage_any (base br : Nat) (ok : Nat → Prop) (d : Dk) (w : World) (h : IsR w base br ok d) :
    Calls Try.prog 30 #[.pointer (some ⟨br, 0, none⟩)] w fun e w' => ∃ a cap, e = .returned (.slice a (d.n * 64) cap) ∧ IsB w' a (imageL d) ∧ Below w.heap.size w w' := by
  have OK1 : Hid (DkOk d) := h.ok'
  have few := OK1.out.few
  obtain ⟨as0, cs, gs, aw, cw, hs, h, _⟩ := h
  have HA : Hid (RefAt w base br as0 cs gs aw cw hs ok d) := h
  have h0 : w.cell? ⟨br, 0, none⟩ = some (.slice as0 gs.length cs) := h.cell 0
  rw [h.gl] at h0
  clear h
  go_enter Try.func30, Try.ntmps30
  go_wp2_with fail
  go_loopw [3, 11] (fun ov iv wr => ∃ (k : Nat) (a : Option Addr) (cap : Nat), k ≤ d.n ∧ iv = .int .i64 (k : Nat) ∧ ov = .slice a (k * 64) cap ∧ OwnsB wr w.heap.size a (secsL d.sure k) cap ∧ Below w.heap.size w wr) (fun _ iv _ => d.n - (intOf iv).toNat)
  case atStart => exact ⟨0, none, 0, Nat.zero_le _, rfl, rfl, own_none _ _, Below.refl _ _⟩
  case round =>
    obtain ⟨k, a, cap, hk, rfl, rfl, hO, hB⟩ := hrel
    rename World => wr
    have HO : Hid (OwnsB wr w.heap.size a (secsL d.sure k) cap) := hO
    have HB : Hid (Below w.heap.size w wr) := hB
    have SL : Hid ((secsL d.sure k).length = k * 64) := (secsL_len (fun i hi => (OK1.out.sec i (by omega)).1)).trans (Nat.mul_comm _ _)
    by_cases hlt : k < d.n
    · have hkg : k < gs.length := by rw [HA.out.gl]; exact hlt
      obtain ⟨g, rfl, hge, hcs, ⟨cu, hcu⟩, hgk, _⟩ := HA.out.sure.cell (i := k) hkg
      have hgl : g < w.heap.size := (Array.getElem?_eq_some_iff.1 hcu).1
      have SB : Hid (RowB wr gs[k] 5 (d.sure k)) := (HA.out.secs k hkg).1.keep hB
      have SK : Hid ((d.sure k).length = 64 ∧ AllB (d.sure k)) := OK1.out.sec k hlt
      have hcell := (hB.cell (p := ⟨g, k, none⟩) hgl).trans hgk
      rw [HA.out.gl] at hcs
      unfold secV at hcell
      obtain ⟨y, hy⟩ : ∃ y, gs[k] = y := ⟨_, rfl⟩
      rw [hy] at hcell SB
      have z := hB.size
      clear hO hB hgk hy hcu hkg h0
      go_wp2_with (at_builtin; refine wpList_appn rfl _ _ rfl w.heap.size z _ _ _ _ SL.out.symm rfl HO.out _ (d.sure k) _ _ SK.out.1.symm rfl (SB.out.isB SK.out.2) (fun h => by cases h) (by rw [SL.out, SK.out.1]; omega) ?_; intro a3 c3 w3 o3 b3)
      have e3 : (secsL d.sure k).length + (d.sure k).length = (k + 1) * 64 := by rw [SL.out, SK.out.1]; omega
      rw [e3]
      have O3 : Hid (OwnsB w3 w.heap.size a3 (secsL d.sure (k + 1)) c3) := o3
      have B3 : Hid (Below w.heap.size w w3) := HB.out.trans b3
      clear o3 b3 e3
      go_roundw
      case rel => exact ⟨k + 1, _, _, by omega, by go_num, rfl, O3.out, B3.out⟩
      case measure => simp [intOf]; omega
    · obtain rfl : k = d.n := by omega
      clear hO hB
      go_wp2
      go_ret
      exact ⟨_, _, rfl, ownsB_isB (imageL_allB OK1.out) HO.out, HB.out⟩
end Go.Proofs.Ytddkmmkhlfjhiaa
