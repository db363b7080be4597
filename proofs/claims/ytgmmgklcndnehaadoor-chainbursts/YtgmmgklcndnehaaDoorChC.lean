/- Layer 19: sets of sectors (map[int]struct{}); may sectors be those of one chain (apart)? -/
import Derived.Test.YtgmmgklcndnehaaDoorChA
import Derived.Test.YtgmmgklcndnehaaDoorGzAC
namespace Go.Proofs.YtgmmgklcndnehaaDoor
open Go.RowKit Go.Maps
set_option linter.unusedVariables false
set_option maxRecDepth 4000

theorem zeroE (w : World) : (zeroValue 96).run Tryd.prog w = .ok (.agg #[]) w := by kernel_rfl
/-- A set of numbers. -/
def MapE (w : World) (b n : Nat) (L : List Int) : Prop :=
  ∃ D : DataW (List Value), w.ownsMap Tryd.prog 3 secElem b n D ∧ (∀ i, Maps.has D (.int .i64 i) = decide (i ∈ L)) ∧ ∀ i, i ∈ L → ∀ z, D.atKey (.int .i64 i) z = .held []
theorem MapE.block {w : World} {b n : Nat} {L : List Int} (h : MapE w b n L) : ∃ es c, w.heap[b]? = some (.map es c) := by obtain ⟨D, h, _⟩ := h; exact owns_block h
theorem MapE.lt {w : World} {b n : Nat} {L : List Int} (h : MapE w b n L) : b < w.heap.size := by obtain ⟨_, _, h⟩ := h.block; exact (Array.getElem?_eq_some_iff.1 h).1
theorem MapE.same {w w' : World} {b n : Nat} {L : List Int} (h : MapE w b n L) (he : ∀ o, w.heap[b]? = some o → KC o = true → w'.heap[b]? = some o) : MapE w' b n L := by obtain ⟨D, h, r⟩ := h; exact ⟨D, owns_same h he, r⟩
theorem MapE.keep {w w' : World} {b n : Nat} {L : List Int} (h : MapE w b n L) (hb : Below w.heap.size w w') : MapE w' b n L := h.same (fun o ho _ => by rw [hb.block b h.lt]; exact ho)
theorem MapE.made (w : World) : MapE (w.alloc (.map #[] 0)) w.heap.size 0 [] := ⟨_, World.ownsMap_made w _ _ _, fun i => rfl, fun i h => by cases h⟩
theorem MapE.look {w : World} {b n : Nat} {L : List Int} (h : MapE w b n L) {i : Int} (hi : -9223372036854775808 ≤ i ∧ i ≤ 9223372036854775807) :
    (Instr.lookup 95 (.map (some b)) (.int .i64 i) true).run Tryd.prog w = .ok (.tuple #[.agg #[], .bool (decide (i ∈ L))]) w := by
  obtain ⟨D, ho, hh, hv⟩ := h
  obtain ⟨v, ps, hrun, hR⟩ := ho.look_ok law Tryd.underlying95 (zeroE w) (secElem_mk []) (keyI hi)
  obtain ⟨cs, rfl, e⟩ := secElem_inv hR
  simp only [Prod.mk.injEq] at e
  rw [hrun, hh]
  by_cases hf : i ∈ L
  · rw [hv i hf] at e
    cases e.1
    rfl
  · rw [Maps.atKey_of_not_has (by rw [hh]; simp [hf])] at e
    cases e.1
    rfl
theorem MapE.store {w : World} {b n : Nat} {L : List Int} (h : MapE w b n L) (hn : n < 1000000) {i : Int} (hi : -9223372036854775808 ≤ i ∧ i ≤ 9223372036854775807) :
    ∃ w', (Instr.mapUpdate 95 (.map (some b)) (.int .i64 i) (.agg #[])).run Tryd.prog w = .ok () w' ∧ MapE w' b (n + 1) (L ++ [i]) ∧ w.mapTurned w' b := by
  obtain ⟨D, ho, hh, hv⟩ := h
  obtain ⟨w', hrun, ho', ht⟩ := ho.store law Tryd.underlying95 (by unfold maxLen; omega) (keyI hi) (secElem_mk [])
  refine ⟨w', hrun, ⟨_, ho', fun j => ?_, fun j hj z => ?_⟩, ht⟩
  · by_cases e : j = i
    · subst e; simp [Maps.has_put_same ho.isMap (keyL hi)]
    · rw [Maps.has_put_other (by simpa using e)]; simp [e, hh]
  · by_cases e : j = i
    · subst e; exact Maps.atKey_put_same ho.isMap (keyL hi) _ _
    · rw [Maps.atKey_put_other (by simpa using e)]; exact hv j (by simpa [e] using hj) z
theorem turned_only {w w' : World} {b : Nat} (h : w.mapTurned w' b) : Only b w w' := by
  have q := turned_else h
  exact ⟨h.grown.os, h.grown.tape, h.grown.output, q.1, q.2⟩

theorem apC_take {l : List Int} {k : Nat} (h : k < l.length) (h0 : apC (l.take k) = true) (h1 : 1 ≤ l[k] ∧ l[k] ≤ 65534) (h2 : ¬ l[k] ∈ l.take k) : apC (l.take (k + 1)) = true := by
  rw [List.take_succ_eq_append_getElem h]
  obtain ⟨a, b⟩ := apC_iff.1 h0
  refine apC_iff.2 ⟨fun s hs => ?_, ?_⟩
  · rcases List.mem_append.1 hs with hs | hs
    · exact a s hs
    · rw [List.mem_singleton.1 hs]; exact h1
  · rw [List.nodup_append]
    refine ⟨b, by simp, fun x hx y hy => ?_⟩
    rw [List.mem_singleton.1 hy]
    rintro rfl
    exact h2 hx
theorem apC_twice {l : List Int} {k : Nat} (h : k < l.length) (h2 : l[k] ∈ l.take k) : apC l = false := by
  obtain ⟨j, hj, e⟩ := List.mem_iff_getElem.1 h2
  have hj' : j < k := by simp at hj; omega
  refine apC_false_twice h hj' ?_
  rw [List.getElem_take] at e
  exact e
theorem IsI.at' {w : World} {a : Option Addr} {l : List Int} (h : IsI w a l) {k : Nat} (hk : k < l.length) : ∃ b off, a = some ⟨b, off, none⟩ ∧ b < w.heap.size ∧ w.cell? ⟨b, off + k, none⟩ = some (.int .i64 l[k]) ∧ -9223372036854775808 ≤ l[k] ∧ l[k] ≤ 9223372036854775807 := by
  obtain ⟨h0, rfl | ⟨b, off, rfl, hs, hc⟩⟩ := h
  · simp at hk
  · have e : l.getD k 0 = l[k] := by rw [List.getD_eq_getElem?_getD, List.getElem?_eq_getElem hk]; rfl
    refine ⟨b, off, rfl, hs, ?_, ?_⟩
    · have := hc k hk
      first | exact this | (rw [e] at this; exact this)
    · exact h0 _ (List.getElem_mem hk)
set_option maxRecDepth 20000 in
set_option maxHeartbeats 8000000 in
/-- May these be the sectors of one chain? -/
theorem hapart_any (a : Option Addr) (cap n : Nat) (l : List Int) (w : World) (hn : n = l.length) (h : IsI w a l) (hm : l.length ≤ 100000) :
    Calls Tryd.prog 31 #[.slice a n cap] w fun e w' => e = .returned (.bool (apC l)) ∧ Below w.heap.size w w' := by
  subst hn
  have H : Hid (IsI w a l) := h
  obtain ⟨N, hN⟩ : ∃ N, w.heap.size = N := ⟨_, rfl⟩
  have HN : Hid (w.heap.size = N) := hN
  have M0 : Hid (MapE (w.alloc (.map #[] 0)) N 0 []) := by show MapE _ _ _ _; rw [← hN]; exact MapE.made w
  have B0 : Hid (Below N w (w.alloc (.map #[] 0))) := by show Below _ _ _; rw [← hN]; exact (Below.refl _ w).alloc (Nat.le_refl _) _
  have hmm : (Instr.makeMap 95 none).run Tryd.prog w = .ok (.map (some N)) (w.alloc (.map #[] 0)) := by rw [← hN]; exact run_makeMap _ w
  clear h hN
  go_enter Tryd.func31, Tryd.ntmps31
  go_wp2
  go_loopw [11] (fun iv wr => ∃ k : Nat, k ≤ l.length ∧ iv = .int .i64 (k : Nat) ∧ apC (l.take k) = true ∧ MapE wr N k (l.take k) ∧ Below N w wr) (fun iv _ => l.length - (intOf iv).toNat)
  case atStart => exact ⟨0, Nat.zero_le _, rfl, rfl, M0.out, B0.out⟩
  case round =>
    obtain ⟨k, hk, rfl, hap, hM, hB⟩ := hrel
    have HA : Hid (apC (l.take k) = true) := hap
    have HM : Hid (MapE wr N k (l.take k)) := hM
    have HB : Hid (Below N w wr) := hB
    by_cases hlt : k < l.length
    · obtain ⟨ba, off, rfl, hbs, hcell, hs0, hs1⟩ := (H.out.keep (by rw [HN.out]; exact hB)).at' hlt
      obtain ⟨s, hs⟩ : ∃ s, l[k] = s := ⟨_, rfl⟩
      have HS : Hid (l[k] = s) := hs
      rw [hs] at hcell hs0 hs1
      have LK := hM.look (i := s) ⟨hs0, hs1⟩
      clear hs hap hM hB
      have BA : Hid (Below N w (wr.alloc (.cells #[] 96))) := HB.out.alloc (by have := HB.out.size; rw [HN.out] at this; exact this) _
      have BS : Hid (Below wr.heap.size wr (wr.alloc (.cells #[] 96))) := (Below.refl _ wr).alloc (Nat.le_refl _) _
      by_cases hmem : s ∈ l.take k
      · rw [decide_eq_true hmem] at LK
        have R : Hid (apC l = false) := apC_twice hlt (by rw [HS.out]; exact hmem)
        clear hmem
        go_wp2
        go_ret
        rw [R.out]
        exact ⟨rfl, by rw [HN.out]; exact BA.out⟩
      · rw [decide_eq_false hmem] at LK
        have HX : Hid (¬ s ∈ l.take k) := hmem
        clear hmem
        by_cases hr : 1 ≤ s ∧ s ≤ 65534
        · have HR : Hid (1 ≤ s ∧ s ≤ 65534) := hr
          obtain ⟨w5, hst, hM5, ht5⟩ := (HM.out.keep BS.out).store (by omega) (i := s) ⟨by omega, by omega⟩
          have NX : Hid (apC (l.take (k + 1)) = true) := apC_take hlt HA.out (by rw [HS.out]; exact hr) (by rw [HS.out]; exact HX.out)
          have ET : l.take k ++ [s] = l.take (k + 1) := by rw [List.take_succ_eq_append_getElem hlt, HS.out]
          rw [ET] at hM5
          have M5 : Hid (MapE w5 N (k + 1) (l.take (k + 1))) := hM5
          have B5 : Hid (Below N w w5) := BA.out.trans ((turned_only ht5).below (Nat.le_refl _))
          clear hM5 ht5 ET hr
          go_wp2_with (go_at_call 44; refine (hisdata_of s 65536 true _ (by decide) (by decide) (decide_eq_true (by have := HR.out; omega))).mono ?_; rintro e w' ⟨rfl, rfl⟩)
          go_roundw
          case rel => exact ⟨k + 1, by omega, by go_num, NX.out, M5.out, B5.out⟩
          case measure => simp [intOf]; omega
        · have HR : Hid (¬ (1 ≤ s ∧ s ≤ 65534)) := hr
          have R : Hid (apC l = false) := apC_false_range (List.getElem_mem hlt) (by rw [HS.out]; exact hr)
          clear hr
          go_wp2_with (go_at_call 44; refine (hisdata_of s 65536 false _ (by decide) (by decide) (decide_eq_false (by have := HR.out; omega))).mono ?_; rintro e w' ⟨rfl, rfl⟩)
          go_ret
          rw [R.out]
          exact ⟨rfl, by rw [HN.out]; exact BA.out⟩
    · obtain rfl : k = l.length := by omega
      have R : Hid (apC l = true) := by have := HA.out; rw [List.take_length] at this; exact this
      clear hap hM hB
      go_wp2
      go_ret
      rw [R.out]
      exact ⟨rfl, by rw [HN.out]; exact HB.out⟩
end Go.Proofs.YtgmmgklcndnehaaDoor
