/- Layer 17: KdE again -/
import Derived.Test.YtbfamjnnlcopiaaDoorAuB
import Derived.Test.YtbfamjnnlcopiaaDoorMhA
import Derived.Test.YtbfamjnnlcopiaaDoorGtI
import Derived.Deep.CutBlock
import Derived.Deep.CutRange
import Derived.Lib.BitFns
namespace Go.Proofs.YtbfamjnnlcopiaaDoor
open Go.RowKit
set_option linter.unusedVariables false
set_option maxRecDepth 4000

end Go.Proofs.YtbfamjnnlcopiaaDoor

/- Layer 17: KdG again -/
namespace Go.Proofs.YtbfamjnnlcopiaaDoor
open Go.RowKit
set_option linter.unusedVariables false
set_option maxRecDepth 4000
/-- Bytes appended to one's own, as a run. -/
theorem app_own (w : World) (base : Nat) (hbase : base ≤ w.heap.size) (as0 : Option Addr) (L : List Int) (cs : Nat) (hown : OwnsB w base as0 L cs) (ad : Addr) (l : List Int) (cx : Nat) (hB : IsB w (some ad) l) (hlen : L.length + l.length ≤ 140737488355328) :
    ∃ a' cap' w', (Builtin.append_ #[25, 25] 25 #[.slice as0 L.length cs, .slice (some ad) l.length cx]).run Tryd.prog w = .ok (.slice a' (L ++ l).length cap') w' ∧ OwnsB w' base a' (L ++ l) cap' ∧ Below base w w' := by
  obtain ⟨i0, hi, hz0, hz1, hz2⟩ := info_parts Tryd.info5
  obtain ⟨v', w', h1, h2, h3, _⟩ := run_append_own (P := Tryd.prog) w base 25 25 5 i0 (.int .u8 0) 1 1 Tryd.underlying25 hi hz0 hz1 hz2 rfl (by decide) _ L.length (L.map (Value.int .u8)) hown ad l.length cx (l.map (Value.int .u8)) (by simp) (by
      intro j u hj
      have hjn : j < l.length := by
        have := (List.getElem?_eq_some_iff.1 hj).1
        simpa using this
      obtain ⟨_, rfl | ⟨b, off, e, _, hc⟩⟩ := hB
      · simp at hjn
      · cases e
        rw [addr_add, hc j hjn]
        have e : (l.map (Value.int .u8))[j]? = some (Value.int .u8 (l.getD j 0)) := by simp [List.getD, List.getElem?_eq_getElem hjn]
        rw [e] at hj
        exact hj) (by intro u hu; obtain ⟨x, _, rfl⟩ := List.mem_map.1 hu; rfl) (by unfold maxLen; omega) (by omega) hbase
  obtain ⟨a', cap', rfl⟩ := rowns_form h2
  refine ⟨a', cap', w', by rw [List.length_append]; exact h1, by simpa [OwnsB] using h2, ?_⟩
  exact (Below.refl _ w).grown h3 hbase (own_ge hown)

/-- Bytes appended to one's own, in a region that draws. -/
theorem step_appB {ops : Array Oper} {o : Oper} {a : Act} {K : Act → World → Prop} {Q : Exit → Act → World → Prop} {E : Prop} {w : World} (hgd : o.guard = none) (hty : o.type = 25) (s x : Operand)
    (ho : o.op = .call { callee := .builtin .append, args := #[s, x], argTypes := #[25, 25] }) (as0 : Option Addr) (L : List Int) (cs : Nat) (ad : Addr) (l : List Int) (cx : Nat)
    (hs : a.eval s = .slice as0 L.length cs) (hx : a.eval x = .slice (some ad) l.length cx) (base : Nat) (hbase : base ≤ w.heap.size) (hown : OwnsB w base as0 L cs) (hB : IsB w (some ad) l) (hlen : L.length + l.length ≤ 140737488355328)
    (h : ∀ a' cap' w', OwnsB w' base a' (L ++ l) cap' → Below base w w' → K (a.put o.dst (.slice a' (L ++ l).length cap')) w') :
    if Region.wanted o (yielded ops a.tmps) = true then Oper.wp Tryd.prog o a w K Q else E := by
  obtain ⟨a', cap', w', hrun, r1, r2⟩ := app_own w base hbase as0 L cs hown ad l cx hB hlen
  refine step_app hgd s x 25 ho _ _ hs hx _ w' (by rw [hty]; exact hrun) ?_
  exact h a' cap' w' r1 r2

/-- How far the bytes have come. -/
structure BAt (w wr : World) (s : Int) (ps : List Int) (a' : Option Addr) (c' k : Nat) (f : Int) (L : List Int) : Prop where
  own : OwnsB wr w.heap.size a' L c'
  below : Below w.heap.size w wr
  body : bodyK s ps = L ++ gapsL f (ps.drop k)
  placed : placedB s f (ps.drop k) = true
  f0 : 0 ≤ f
  f1 : f ≤ 4096
  f8 : f % 8 = 0
  len : L.length ≤ 20 + 10 * k

end Go.Proofs.YtbfamjnnlcopiaaDoor

/- Layer 17: KdH again -/
namespace Go.Proofs.YtbfamjnnlcopiaaDoor
open Go.RowKit
set_option linter.unusedVariables false
set_option maxRecDepth 4000

end Go.Proofs.YtbfamjnnlcopiaaDoor

/- Layer 17: KdI again -/
namespace Go.Proofs.YtbfamjnnlcopiaaDoor
open Go.RowKit
set_option linter.unusedVariables false
set_option maxRecDepth 4000
theorem clonei_nil (n c : Nat) (w : World) :
    Calls Tryd.prog 17 #[.slice none n c] w fun e w' => e = .returned (.slice none 0 0) ∧ w = w' := by
  have q : ∀ (w : World) (a : Option Addr) (n c n' c' : Nat), (binOp .eql 22 (.slice a n c) (.slice none n' c')).run Tryd.prog w = .ok (.bool a.isNone) w := fun w a n c n' c' => Lib.run_eql_slice_nil w _ _ a n c n' c' Tryd.underlying22
  go_enter Tryd.func17, Tryd.ntmps17
  go_wp2
  go_ret
  exact ⟨rfl, rfl⟩
theorem clonei_at (ad : Addr) (c : Nat) (l : List Int) (w : World) (hB : IsI w (some ad) l) (hlen : l.length ≤ 17592186044416) :
    Calls Tryd.prog 17 #[.slice (some ad) l.length c] w fun e w' => ∃ a' c', e = .returned (.slice a' l.length c') ∧ OwnsI w' w.heap.size a' l c' ∧ Below w.heap.size w w' := by
  have q : ∀ (w : World) (a : Option Addr) (n c n' c' : Nat), (binOp .eql 22 (.slice a n c) (.slice none n' c')).run Tryd.prog w = .ok (.bool a.isNone) w := fun w a n c n' c' => Lib.run_eql_slice_nil w _ _ a n c n' c' Tryd.underlying22
  obtain ⟨a', c', w', hrun, o, _, b⟩ := appi_run w ad l c hB hlen
  have O : Hid (OwnsI w' w.heap.size a' l c') := o
  have B : Hid (Below w.heap.size w w') := b
  clear hB o b
  go_enter Tryd.func17, Tryd.ntmps17
  go_wp2_with (at_builtin; refine wpList_runi rfl rfl _ _ rfl _ _ _ _ rfl rfl hrun ?_)
  go_ret
  exact ⟨a', c', rfl, O.out, B.out⟩
/-- Clone of numbers. -/
theorem clonei_any (a : Option Addr) (c n : Nat) (l : List Int) (w : World) (hn : n = l.length) (hB : IsI w a l) (hnil : a = none → l = [] ∧ c = 0) (hlen : l.length ≤ 17592186044416) :
    Calls Tryd.prog 17 #[.slice a n c] w fun e w' => ∃ a' c', e = .returned (.slice a' l.length c') ∧ OwnsI w' w.heap.size a' l c' ∧ Below w.heap.size w w' := by
  subst hn
  rcases a with _ | ad
  · obtain ⟨rfl, rfl⟩ := hnil rfl
    refine (clonei_nil _ _ w).mono ?_
    rintro e w' ⟨rfl, rfl⟩
    exact ⟨none, 0, rfl, ownsI_none _ _, Below.refl _ _⟩
  · exact clonei_at ad c l w hB hlen
end Go.Proofs.YtbfamjnnlcopiaaDoor

/- Layer 17: RoA again -/
namespace Go.Proofs.YtbfamjnnlcopiaaDoor
open Go.RowKit
set_option linter.unusedVariables false
set_option maxRecDepth 4000
theorem AllB.zeros (n : Nat) : AllB (List.replicate n 0) := fun x hx => by rw [List.eq_of_mem_replicate hx]; omega
/-- So many bytes, from this place on, lie among n. -/
def inR (n : Nat) (o k : Int) : Prop := 0 ≤ k ∧ 0 ≤ o ∧ o + k ≤ (n : Int)
instance (n : Nat) (o k : Int) : Decidable (inR n o k) := by unfold inR; infer_instance
def zeroR (l : List Int) (o k : Int) : List Int := if inR l.length o k then overR l o.toNat (List.replicate k.toNat 0) else l
theorem overR_len {l : List Int} {o : Nat} {b : List Int} (h : o + b.length ≤ l.length) : (overR l o b).length = l.length := by
  unfold overR; simp; omega
theorem AllB.over {l b : List Int} (h : AllB l) (hb : AllB b) (o : Nat) : AllB (overR l o b) := ((h.take _).append hb).append (h.drop _)
theorem AllB.zero {l : List Int} (h : AllB l) (o k : Int) : AllB (zeroR l o k) := by
  unfold zeroR; split
  · exact h.over (AllB.zeros _) _
  · exact h
theorem rwithin_any (n : Int) (w : World) :
    Calls Tryd.prog 68 #[.int .i64 n] w fun e w' => e = .returned (.int .i64 (clampW n)) ∧ w = w' := by
  go_enter Tryd.func68, Tryd.ntmps68
  go_wp2
  all_goals (go_ret; refine ⟨congrArg Ending.returned (congrArg (Value.int IntKind.i64) ?_), rfl⟩; unfold clampW; split <;> (try split) <;> omega)
set_option maxHeartbeats 1000000 in
theorem put8 (n width : Int) (hK : clampW width = 8) (_h0 : 0 ≤ n) (_h1 : n ≤ 18446744073709551615) (w : World) :
    Calls Tryd.prog 44 #[.int .u64 n, .int .i64 width] w fun e w' => e = .returned (.slice (some ⟨w.heap.size, 0, none⟩) 8 8) ∧ w' = w.alloc (.cells #[.int .u8 (n % 256), .int .u8 (n / 256 % 256), .int .u8 (n / 65536 % 256), .int .u8 (n / 16777216 % 256), .int .u8 (n / 4294967296 % 256), .int .u8 (n / 1099511627776 % 256), .int .u8 (n / 281474976710656 % 256), .int .u8 (n / 72057594037927936 % 256)] 5) := by
  have hmk : ∀ w : World, (Instr.makeSlice 25 (.int .i64 8) (.int .i64 8)).run Tryd.prog w = .ok (.slice (some ⟨w.heap.size, 0, none⟩) 8 8) (w.alloc (.cells #[.int .u8 0, .int .u8 0, .int .u8 0, .int .u8 0, .int .u8 0, .int .u8 0, .int .u8 0, .int .u8 0] 5)) := fun _ => by kernel_rfl
  go_enter Tryd.func44, Tryd.ntmps44
  go_wp2_with (go_at_call 68; refine (rwithin_any width _).mono ?_; rintro e w' ⟨rfl, rfl⟩; rw [hK])
  go_ret
  exact ⟨rfl, by rw [show n / 72057594037927936 % 256 = n / 72057594037927936 from by omega]⟩
theorem div_steps (n : Int) : n / 256 / 256 = n / 65536 ∧ n / 65536 / 256 = n / 16777216 ∧ n / 16777216 / 256 = n / 4294967296 ∧ n / 4294967296 / 256 = n / 1099511627776 ∧ n / 1099511627776 / 256 = n / 281474976710656 ∧ n / 281474976710656 / 256 = n / 72057594037927936 := by omega
theorem put_word (n : Int) (h0 : 0 ≤ n) (h1 : n ≤ 18446744073709551615) (w : World) :
    Calls Tryd.prog 44 #[.int .u64 n, .int .i64 8] w fun e w' => e = .returned (.slice (some ⟨w.heap.size, 0, none⟩) 8 8) ∧ RowB w' w.heap.size (putL 8 n) ∧ Below w.heap.size w w' := by
  obtain ⟨d2, d3, d4, d5, d6, d7⟩ := div_steps n
  refine (put8 n 8 rfl h0 h1 w).mono ?_
  rintro e w' ⟨rfl, rfl⟩
  refine ⟨rfl, ?_, (Below.refl _ w).alloc (Nat.le_refl _) _⟩
  have := Go.heap_alloc_new w (.cells ((putL 8 n).map (Value.int .u8)).toArray 5)
  simp only [putL, d2, d3, d4, d5, d6, d7, List.map_cons, List.map_nil] at this
  show _ = _
  simp only [cellsB, putL, d2, d3, d4, d5, d6, d7, List.map_cons, List.map_nil]
  exact this
set_option maxHeartbeats 1000000 in
theorem rrput_is (n width : Int) (K : Nat) (hK : clampW width = K) (hK8 : K ≤ 8) (h0 : 0 ≤ n) (h1 : n ≤ 18446744073709551615) (w : World) :
    Calls Tryd.prog 49 #[.int .u64 n, .int .i64 width] w fun e w' => ∃ a cap, e = .returned (.slice a K cap) ∧ IsB w' a (putL K n) ∧ (∀ ad, a = some ad → w.heap.size ≤ ad.block) ∧ Below w.heap.size w w' := by
  obtain ⟨i0, hi, hz0, hz1, hz2⟩ := info_parts Tryd.info5
  have HK : Hid (clampW width = K) := hK
  clear hK
  go_enter Tryd.func49, Tryd.ntmps49
  go_wp2
  go_loopw [0, 5] (fun t v wr => ∃ (a : Option Addr) (cap : Nat) (L : List Int) (m : Int), t = .int .u64 m ∧ v = .slice a L.length cap ∧ PutAt n K w.heap.size w wr a cap L m) (fun _ v _ => 8 - lenOf v)
  case atStart => exact ⟨none, 0, [], n, rfl, rfl, Nat.zero_le _, rfl, h0, h1, World.ownsRow_nil _ _ _ _, Below.refl _ _⟩
  case round =>
    obtain ⟨a, cap, L, m, rfl, rfl, hL, hx, m0, m1, hown, hnx⟩ := hrel
    have HX : Hid (putL K n = L ++ putL (K - L.length) m) := hx
    clear hx
    by_cases hlt : L.length < K
    · go_wp2_with (first
        | (go_at_call 71; refine (width_any width _).mono ?_; rintro e w' ⟨rfl, rfl⟩; rw [HK.out])
        | (at_builtin; refine wpList_append_own _ rfl (.tmp 11) (.tmp 15) 25 rfl w.heap.size 5 i0 (.int .u8 0) 1 1 Tryd.underlying25 hi hz0 hz1 hz2 rfl (by decide) (.slice a L.length cap) L.length _ rfl (World.ownsRow.alloc hown _) ⟨wr.heap.size, 0, none⟩ 1 1 [.int .u8 (m % 256)] rfl rfl (by intro t u ht; match t, ht with | 0, ht => simp at ht; subst ht; simp [Addr.add]) (by intro u hu; simp at hu; subst hu; rfl) (by unfold maxLen; omega) (by omega) (by have := hnx.size; simp; omega) ?_; intro v1 w1 hown1 hgrow1 hnil1))
      obtain ⟨a1, cap1, rfl⟩ := rowns_form hown1
      have hp : putL (K - L.length) m = m % 256 :: putL (K - (L.length + 1)) (m / 256) := by
        rw [show K - L.length = (K - (L.length + 1)) + 1 from by omega, putL]
      have R : PutAt n K w.heap.size w w1 a1 cap1 (L ++ [m % 256]) (m / 256) :=
        ⟨by simp; omega, by rw [HX.out, hp]; simp, by omega, by omega, by simpa [OwnsB] using hown1, (hnx.alloc hnx.size _).grown hgrow1 (by simp; have := hnx.size; omega) (own_ge hown)⟩
      go_roundw
      case rel => exact ⟨a1, cap1, L ++ [m % 256], m / 256, rfl, by simp, R⟩
      case measure => simp [lenOf]; omega
    · have hx : putL K n = L := by rw [HX.out, show K - L.length = 0 from by omega]; simp [putL]
      have hlen : L.length = K := by omega
      have HQ : Hid (putL K n = L) := hx
      clear hx
      go_wp2_with (go_at_call 71; refine (width_any width _).mono ?_; rintro e w' ⟨rfl, rfl⟩; rw [HK.out])
      go_ret
      refine ⟨a, cap, rfl, ?_, (fun ad e => by cases e; exact own_ge hown _ rfl), hnx⟩
      rw [HQ.out]
      exact ownsB_isB (by rw [← HQ.out]; exact putL_byte K n) hown
end Go.Proofs.YtbfamjnnlcopiaaDoor
