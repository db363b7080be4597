/- The sixth rule asked: slotsTold. -/
import Derived.Test.YtebmegghojiegaaDoorAvD
namespace Go.Proofs.YtebmegghojiegaaDoor
open Go.RowKit Go.Maps
set_option linter.unusedVariables false

theorem MapI.look2 {w : World} {b n : Nat} {f : Int → Option Nat} (h : MapI w b n f) {i : Int} (hi : -9223372036854775808 ≤ i ∧ i ≤ 9223372036854775807) :
    (Instr.lookup 80 (.map (some b)) (.int .i64 i) true).run Tryd.prog w = .ok (.tuple #[.int .i64 (((f i).getD 0 : Nat) : Int), .bool (f i).isSome]) w := by
  obtain ⟨D, ho, hh, hv⟩ := h
  obtain ⟨v, ps, hrun, hR⟩ := ho.look_ok law Tryd.underlying80 (z := .int .i64 0) (by kernel_rfl) (plainElem_int Tryd.underlying3 (by decide)) (keyI hi)
  obtain ⟨c, rfl, e, _⟩ := plainElem_int_inv Tryd.underlying3 hR
  rw [hrun, hh]
  cases hf : f i with
  | none =>
    rw [Maps.atKey_of_not_has (by rw [hh, hf]; rfl)] at e
    simp at e
    rw [← e.1]; rfl
  | some k =>
    rw [hv i k hf] at e
    simp at e
    rw [← e.1]; rfl
theorem IsI.get {w : World} {a : Option Addr} {l : List Int} (h : IsI w a l) (i : Nat) (hi : i < l.length) : ∃ b off, a = some ⟨b, off, none⟩ ∧ w.cell? ⟨b, off + i, none⟩ = some (.int .i64 (l.getD i 0)) := by
  obtain ⟨_, h | ⟨b, off, e, _, hc⟩⟩ := h
  · subst h; cases hi
  · exact ⟨b, off, e, by rw [hc i hi]⟩
theorem at_q (sb : Nat) (p c s : Int) (i : Nat) (x : Int) (w : World) (h : Bx w sb p c s) (hT : TabC w) (r : Rt p c s) (hi : i < slN c) (hx : 256 * p + (i : Int) * szI c s = x) :
    Calls Tryd.prog 86 #[.pointer (some ⟨sb, 0, none⟩), .int .i64 (i : Nat)] w fun e w' => e = .returned (.tuple #[.int .i64 x, .bool true]) ∧ w' = w := by
  subst hx; exact (at_in sb p c s i w h hT r hi).mono (fun e w' h => ⟨h.1, h.2.symm⟩)
theorem all_step {l : List Int} {P : Int → Bool} {k : Nat} (hk : k < l.length) (h : ∀ m, m < k → P (l.getD m 0) = true) : (P (l.getD k 0) = false → l.all P = false) ∧ (P (l.getD k 0) = true → ∀ m, m < k + 1 → P (l.getD m 0) = true) := by
  refine ⟨fun e => ?_, fun e m hm => ?_⟩
  · cases q : l.all P with
    | false => rfl
    | true =>
      have := List.all_eq_true.1 q l[k] (List.getElem_mem hk)
      simp [List.getD, hk] at e
      rw [this] at e; cases e
  · rcases Nat.lt_or_eq_of_le (Nat.le_of_lt_succ hm) with g | rfl
    · exact h m g
    · exact e
theorem all_done {l : List Int} {P : Int → Bool} (h : ∀ m, m < l.length → P (l.getD m 0) = true) : l.all P = true := by
  rw [List.all_eq_true]
  intro x hx
  obtain ⟨m, hm, rfl⟩ := List.getElem_of_mem hx
  have := h m hm
  simpa [List.getD, hm] using this
set_option maxRecDepth 20000 in
set_option maxHeartbeats 4000000 in
theorem slotsTold_any (lb ms mi : Nat) (V : Vw) (A : Va) (nf nr : Nat) (f : Int → Option Nat) (i : Nat) (w : World) (h : Lk w lb ms mi V A nf nr f) (hi : i < V.ts.length) (hV : Hold V 3) (r : Bool) (hr : rule6 V i = r) :
    Calls Tryd.prog 73 #[.pointer (some ⟨lb, 0, none⟩), .int .i64 (i : Nat)] w fun e w' => e = .returned (.bool r) ∧ Below w.heap.size w w' := by
  have c4 : w.cell? ⟨lb, 4, none⟩ = some (.slice A.sa A.sn A.sc) := cell_of_row _ _ 4 _ _ _ h.box
  have sl := h.vw.sl
  have tz := h.vw.tz
  obtain ⟨g, off, la, lk, ea, q0, q1, q2, q3, hI, hlm⟩ := h.vw.ts i hi
  rw [ea] at c4
  obtain ⟨hrt, hpe⟩ := hV.right (Nat.le_refl _) i hi
  have h1 := hV.r1 (by decide)
  have hsm := h.f2 i hi hrt
  obtain ⟨sb, hsb⟩ := Option.isSome_iff_exists.1 hsm
  have hsp : ∃ b g2, SpanAt w sb b g2 (tdD V.ts i).p (tdD V.ts i).c (tdD V.ts i).s (fOf (tdD V.ts i).l) := by
    obtain ⟨j, hj, _, hp, b, g2, hs⟩ := h.f1 _ _ hsb
    obtain rfl := std_same (hV.std (Nat.le_refl _)) (fun k hk => (hV.right (Nat.le_refl _) k hk).1) hj hi hp
    exact ⟨b, g2, hs⟩
  obtain ⟨b, g2, hs⟩ := hsp
  have hri := h.vw.ti (tdD V.ts i) (by rw [tdD_at hi]; exact List.getElem_mem hi)
  unfold rule6 at hr
  rw [← tdD_at hi] at q0 q1 q2 q3 hI hlm
  obtain ⟨t, ht⟩ : ∃ t, tdD V.ts i = t := ⟨_, rfl⟩
  rw [ht] at q0 q1 q2 q3 hI hlm hrt hpe hsb hs hr hri
  have hat := fun k hk => right_at hrt (k := k) hk
  obtain ⟨p, c, s, l⟩ := t
  simp only at q0 q1 q2 q3 hI hlm hpe hsb hs hr hri hat
  obtain ⟨ll, hll⟩ : ∃ ll, l.length = ll := ⟨_, rfl⟩
  rw [hll] at q3 hlm
  obtain ⟨sn, hsn⟩ : ∃ sn, A.sn = sn := ⟨_, rfl⟩
  rw [hsn] at c4 sl
  have i0 : (i : Int) < (sn : Int) := by omega
  obtain ⟨E, hE⟩ : ∃ E, w.alloc (.cells #[.int .i64 p, .int .i64 c, .int .i64 s, .slice la ll lk] 58) = E := ⟨_, rfl⟩
  have bE : Below w.heap.size w E := by rw [← hE]; exact (Below.refl _ w).alloc (Nat.le_refl _) _
  have rE : E.heap[w.heap.size]? = some (.cells #[.int .i64 p, .int .i64 c, .int .i64 s, .slice la ll lk] 58 (0, 0)) := by rw [← hE]; exact Go.heap_alloc_new w _
  have LE := h.keep bE
  have HBE : Hid (Below w.heap.size w E) := bE
  have d0 : E.cell? ⟨w.heap.size, 0, none⟩ = some (.int .i64 p) := cell_of_row _ _ 0 _ _ _ rE
  have d3 : E.cell? ⟨w.heap.size, 3, none⟩ = some (.slice la ll lk) := cell_of_row _ _ 3 _ _ _ rE
  have c6 : E.cell? ⟨lb, 6, none⟩ = some (.map (some ms)) := cell_of_row _ _ 6 _ _ _ LE.box
  have c7 : E.cell? ⟨lb, 7, none⟩ = some (.map (some mi)) := cell_of_row _ _ 7 _ _ _ LE.box
  have LQ : ∀ n, (Instr.lookup 79 (.map (some ms)) (.int .i64 p) false).run Tryd.prog (E.drewN n) = .ok (.pointer (some ⟨sb, 0, none⟩)) (E.drewN n) := fun n => by
    have := (LE.sp.same (w' := E.drewN n) (fun o ho => ho)).look hri
    rw [hsb] at this
    exact this
  have LR : Hid (∀ (n : Nat) (x : Int), i64 x → (Instr.lookup 80 (.map (some mi)) (.int .i64 x) true).run Tryd.prog (E.drewN n) = .ok (.tuple #[.int .i64 (((ownI V.rs x).getD 0 : Nat) : Int), .bool (ownI V.rs x).isSome]) (E.drewN n)) := fun n x hx => (LE.on.same (w' := E.drewN n) (fun o ho => ho)).look2 hx
  have HIE : Hid (IsI E la l) := hI.keep bE
  have BX : Hid (Bx E sb p c s) := (hs.keep bE).box
  have HTB : Hid (Tabs E) := LE.tab
  have HRT : Hid (Rt p c s) := newE_rt hrt.1
  have HAT : Hid (∀ k, k ∈ l → 0 ≤ k ∧ k < slN c ∧ 256 * p ≤ atS ⟨p, c, s, l⟩ k ∧ atS ⟨p, c, s, l⟩ k < 256 * p + 256 ∧ 0 ≤ p) := hat
  have HR : Hid ((l.all fun x => (ownI V.rs (atS ⟨p, c, s, l⟩ x)).isSome) = r) := hr
  have HLL : Hid (l.length = ll) := hll
  have pB : p ≤ 4096 := by omega
  have l9 : ll ≤ 9223372036854775807 := by unfold maxLen at hlm; omega
  obtain ⟨nb, hnb⟩ : ∃ nb, w.heap.size = nb := ⟨_, rfl⟩
  rw [hnb] at d0 d3
  clear h LE hV hrt hpe h1 hsm hsb hs hri ht hat hI hlm hr rE bE hll
  go_enter Tryd.func73, Tryd.ntmps73
  go_wp2_with fail
  go_loopw [23] (fun iv wz => ∃ k q : Nat, k ≤ ll ∧ iv = .int .i64 (k : Nat) ∧ wz = E.drewN q ∧ ∀ m, m < k → (ownI V.rs (atS ⟨p, c, s, l⟩ (l.getD m 0))).isSome = true) (fun iv _ => ll - lenW iv)
  case atStart => exact ⟨0, 0, Nat.zero_le _, rfl, by first | rfl | (rw [← hE]; rfl), fun m hm => by omega⟩
  case round =>
    obtain ⟨k, q, hk, rfl, rfl, hm⟩ := hrel
    have HM : Hid (∀ m, m < k → (ownI V.rs (atS ⟨p, c, s, l⟩ (l.getD m 0))).isSome = true) := hm
    clear hm
    by_cases hkl : k < ll
    · have hkl' : k < l.length := by rw [HLL.out]; exact hkl
      obtain ⟨gl, ol, rfl, cl⟩ := HIE.out.get k hkl'
      have st := all_step (P := fun x => (ownI V.rs (atS ⟨p, c, s, l⟩ x)).isSome) hkl' HM.out
      obtain ⟨k1, k2, k3, k4, k5⟩ := HAT.out (l.getD k 0) (by simp [List.getD, hkl'])
      obtain ⟨y, hy⟩ : ∃ y, l.getD k 0 = y := ⟨_, rfl⟩
      rw [hy] at cl st k1 k2 k3 k4
      obtain ⟨n, rfl⟩ : ∃ n : Nat, y = (n : Int) := ⟨y.toNat, by omega⟩
      have HX : Hid (256 * p + (n : Int) * szI c s = atS ⟨p, c, s, l⟩ (n : Int)) := rfl
      have HY : Hid (l.getD k 0 = (n : Int)) := hy
      obtain ⟨x, hx⟩ : ∃ x, atS ⟨p, c, s, l⟩ (n : Int) = x := ⟨_, rfl⟩
      rw [hx] at HX k3 k4
      simp only [hx] at st
      have LX := fun n => LR.out n x (by unfold i64; omega)
      have HN : Hid (n < slN c) := by show n < slN c; omega
      have kk : (k : Int) < (ll : Int) := by omega
      have ST : Hid (((ownI V.rs x).isSome = false → r = false) ∧ ((ownI V.rs x).isSome = true → ∀ m, m < k + 1 → (ownI V.rs (atS ⟨p, c, s, l⟩ (l.getD m 0))).isSome = true)) := ⟨fun e => by rw [← HR.out]; exact st.1 e, st.2⟩
      obtain ⟨rr, hrr⟩ : ∃ rr, (ownI V.rs x).isSome = rr := ⟨_, rfl⟩
      obtain ⟨cc, hcc⟩ : ∃ cc : Int, (((ownI V.rs x).getD 0 : Nat) : Int) = cc := ⟨_, rfl⟩
      rw [hrr] at ST
      simp only [hrr, hcc] at LX
      clear st hx hy k1 k2 k3 k4 k5 hrr hcc hkl'
      cases rr with
      | false =>
        have F : Hid (false = r) := (ST.out.1 rfl).symm
        go_wp2_with fail
        go_quiet ((go_at_call 86; exact (at_q sb p c s n x _ (BX.out.drewN _) (HTB.out.drewN _).1 HRT.out HN.out HX.out).mono (fun e w'' h => ⟨h.1, _, h.2⟩)))
        go_wp2
        go_ret
        exact ⟨ret_bool F.out, by first | exact below_drewN HBE.out _ | exact hnb ▸ below_drewN HBE.out _⟩
      | true =>
        have NX : Hid (∀ m, m < k + 1 → (ownI V.rs (atS ⟨p, c, s, l⟩ (l.getD m 0))).isSome = true) := ST.out.2 rfl
        clear ST
        go_wp2_with fail
        go_quiet ((go_at_call 86; exact (at_q sb p c s n x _ (BX.out.drewN _) (HTB.out.drewN _).1 HRT.out HN.out HX.out).mono (fun e w'' h => ⟨h.1, _, h.2⟩)))
        go_wp2
        go_roundw
        case rel => exact ⟨k + 1, _, by omega, by congr 1, rfl, NX.out⟩
        case measure => simp [lenW]; omega
    · obtain rfl : k = ll := by omega
      have F : Hid (true = r) := by
        show true = r
        rw [← HR.out]
        exact (all_done (fun m hm => HM.out m (by rw [HLL.out] at hm; exact hm))).symm
      go_wp2
      go_ret
      exact ⟨ret_bool F.out, by first | exact below_drewN HBE.out _ | exact hnb ▸ below_drewN HBE.out _⟩
end Go.Proofs.YtebmegghojiegaaDoor
