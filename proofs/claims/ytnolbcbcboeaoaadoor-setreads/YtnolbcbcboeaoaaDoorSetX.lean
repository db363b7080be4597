/- The document's Read, and a copy of bytes: what they answer, and what they make. -/
import Derived.Test.YtnolbcbcboeaoaaDoorSetK
import Derived.Test.YtnolbcbcboeaoaaDoorSetU
namespace Go.Proofs.YtnolbcbcboeaoaaDoor
open Go.RowKit
set_option linter.unusedVariables false

/-- Bytes are appended to a slice of the call's own, whatever they are: none, or some. -/
theorem wpList_app {ops : Array Oper} {rest : List Oper} {o : Oper} {a : Act} {Q : Exit → Act → World → Prop} {w : World} (hgd : o.guard = none) (s x : Operand)
    (ho : o.op = .call { callee := .builtin .append, args := #[s, x], argTypes := #[36, 36] })
    (base : Nat) (hbase : base ≤ w.heap.size) (as0 : Option Addr) (L : List Int) (cs : Nat) (hs : a.eval s = .slice as0 L.length cs) (hown : Owns w base 5 .u8 as0 L cs)
    (ax : Option Addr) (l : List Int) (cx : Nat) (hx : a.eval x = .slice ax l.length cx) (hB : IsL w .u8 ax l) (hnil : ax = none → l = [] ∧ cx = 0) (hlen : L.length + l.length ≤ 140737488355328)
    (h : ∀ a' cap' w', Owns w' base 5 .u8 a' (L ++ l) cap' → Below base w w' → wpList Tryd.prog ops Q rest (a.put o.dst (.slice a' (L ++ l).length cap')) w') :
    wpList Tryd.prog ops Q (o :: rest) a w := by
  obtain ⟨i0, hi, hz0, hz1, hz2⟩ := info_parts Tryd.info5
  rcases ax with _ | ad
  · obtain ⟨rfl, rfl⟩ := hnil rfl
    refine wpList_append_own_none hgd s x 36 ho base 5 i0 1 Tryd.underlying36 hi _ _ _ hs hown hx ?_
    have := h as0 cs w (by simpa using hown) (Below.refl _ _)
    simpa using this
  · refine wpList_append_own w hgd s x 36 ho base 5 i0 (.int .u8 0) 1 1 Tryd.underlying36 hi hz0 hz1 hz2 rfl (by decide) _ _ _ hs hown ad l.length cx (l.map (Value.int .u8)) hx (by simp) ?_ ?_ (by unfold maxLen; omega) (by omega) hbase ?_
    · intro j u hj
      have hjn : j < l.length := by
        have := (List.getElem?_eq_some_iff.1 hj).1
        simpa using this
      obtain rfl | ⟨b, off, e, _, hc⟩ := hB
      · simp at hjn
      · cases e
        rw [addr_add, hc j hjn]
        have e : (l.map (Value.int .u8))[j]? = some (Value.int .u8 (l.getD j 0)) := by simp [List.getD, List.getElem?_eq_getElem hjn]
        rw [e] at hj
        exact hj
    · intro u hu; obtain ⟨x, _, rfl⟩ := List.mem_map.1 hu; rfl
    · intro v' w' h1 h2 h3
      obtain ⟨a', cap', rfl⟩ := owns_form h1
      have := h a' cap' w' (by simpa [Owns] using h1) ((Below.refl _ w).grown h2 hbase hown.ge)
      simpa using this

theorem owns_made (w : World) : Owns (w.alloc (.cells #[] 5)) w.heap.size 5 .u8 (some ⟨w.heap.size, 0, none⟩) [] 0 :=
  World.ownsRow_made w #[] 0 (Nat.le_refl _) (Nat.zero_le _) rfl

theorem copy01_any (a : Option Addr) (cap : Nat) (l : List Int) (w : World) (h : IsL w .u8 a l) (hnil : a = none → l = [] ∧ cap = 0) (hm : l.length ≤ 140737488355328) :
    Calls Tryd.prog 19 #[.slice a l.length cap] w fun e w' => ∃ a' cap', e = .returned (.slice a' l.length cap') ∧ IsL w' .u8 a' l ∧ Below w.heap.size w w' := by
  have HL : Hid (IsL w .u8 a l) := h
  have HN : Hid (a = none → l = [] ∧ cap = 0) := hnil
  clear h hnil
  go_enter Tryd.func19, Tryd.ntmps19
  go_wp2_with (at_builtin; refine wpList_app rfl _ _ rfl w.heap.size ?q1 _ [] 0 rfl (owns_made w) a l cap rfl ?q2 HN.out ?q3 ?_)
  case q1 => simp
  case q2 => exact HL.out.keep ((Below.refl _ w).alloc (Nat.le_refl _) _)
  case q3 => simp; omega
  intro a3 c3 w3 o3 b3
  have B3 : Hid (Below w.heap.size w w3) := ((Below.refl _ w).alloc (Nat.le_refl _) _).trans b3
  have L3 : Hid (IsL w3 .u8 a3 l) := o3.isL
  clear o3 b3
  go_wp2
  go_ret
  exact ⟨a3, c3, rfl, L3.out, B3.out⟩

/-- Refused: no set, and the error's number. -/
def rrefV (c : Int) : Value := .tuple #[.pointer none, .int .i64 c]

theorem rread_arg (n : Int) (a : Option Addr) (cap : Nat) (len : Nat) (w : World) (h : n < 0 ∨ 65536 < n) :
    Calls Tryd.prog 21 #[.int .i64 n, .slice a len cap] w fun e w' => e = .returned (rrefV 2) ∧ w = w' := by
  by_cases h0 : n < 0
  · go_enter Tryd.func21, Tryd.ntmps21
    go_wp2
    go_ret2
    exact ⟨rfl, rfl⟩
  · have h1 : 65536 < n := by omega
    go_enter Tryd.func21, Tryd.ntmps21
    go_wp2
    go_ret2
    exact ⟨rfl, rfl⟩

theorem rread_length (n : Nat) (a : Option Addr) (cap : Nat) (len : Nat) (w : World) (hn : n ≤ 65536) (hl : len ≤ maxLen) :
    (len < (n + 7) / 8 → Calls Tryd.prog 21 #[.int .i64 n, .slice a len cap] w fun e w' => e = .returned (rrefV 3) ∧ w = w') ∧
    ((n + 7) / 8 < len → Calls Tryd.prog 21 #[.int .i64 n, .slice a len cap] w fun e w' => e = .returned (rrefV 6) ∧ w = w') := by
  unfold maxLen at hl
  constructor
  · intro hlt
    go_enter Tryd.func21, Tryd.ntmps21
    go_wp2
    go_ret2
    exact ⟨rfl, rfl⟩
  · intro hlt
    have hge : ¬ len < (n + 7) / 8 := by omega
    go_enter Tryd.func21, Tryd.ntmps21
    go_wp2
    go_ret2
    exact ⟨rfl, rfl⟩

theorem cut_more (l : List Int) (p : Nat) (h : fB l p = true) : ∀ i, put (cutP l p) p true i = cutP l (p + 1) i := by
  intro i
  rw [put, cutP, cutP]
  by_cases e : i = p
  · subst e; simp [h]
  · rw [if_neg e]
    by_cases h' : i < p
    · simp [h', show i < p + 1 by omega]
    · simp [h', show ¬ i < p + 1 by omega]

theorem cut_same (l : List Int) (p : Nat) (h : fB l p = false) : ∀ i, cutP l p i = cutP l (p + 1) i := by
  intro i
  rw [cutP, cutP]
  by_cases e : i = p
  · subst e; simp [h]
  · by_cases h' : i < p
    · simp [h', show i < p + 1 by omega]
    · simp [h', show ¬ i < p + 1 by omega]

set_option maxRecDepth 20000 in
set_option maxHeartbeats 4000000 in
theorem rread_any (n : Nat) (a : Option Addr) (cap : Nat) (l : List Int) (w : World) (hn : n ≤ 65536) (hb : ∀ x ∈ l, 0 ≤ x ∧ x ≤ 255) (hL : IsL w .u8 a l) (hl : l.length = (n + 7) / 8) :
    Calls Tryd.prog 21 #[.int .i64 n, .slice a l.length cap] w fun e w' =>
      (e = .returned (rrefV 4) ∧ Below w.heap.size w w' ∧ ∃ i, fB l i = true ∧ n ≤ i) ∨
      (e = .returned (.tuple #[.pointer (some ⟨w.heap.size + 1, 0, none⟩), .int .i64 0]) ∧ RefAt w' (w.heap.size + 1) w.heap.size n (fB l) ∧ Below w.heap.size w w') := by
  have HZ : Hid (l.length = (n + 7) / 8) := hl
  have HB : Hid (∀ x ∈ l, 0 ≤ x ∧ x ≤ 255) := hb
  have HL : Hid (IsL w .u8 a l) := hL
  rw [HZ.out]
  have hnn : ¬ 65536 < (n : Int) := by omega
  have hcl : clampN n = n := by rw [clampN, if_neg (by omega), if_neg hnn]; omega
  have HCL : Hid (clampN n = n) := hcl
  have hd0 : decide ((n : Int) < 0) = false := by simp
  clear hb hL hl hcl
  go_enter Tryd.func21, Tryd.ntmps21
  go_wp2_with (go_at_call 29; refine (rnew_any _ _).mono ?_; rintro e w1 ⟨rfl, hw1⟩)
  have R1 : Hid (RefAt w1 (w.heap.size + 1) w.heap.size n (cutP l (8 * 0))) := by
    have := rnewW_at w n hn
    rw [HCL.out] at hw1
    rw [hw1] at this
    exact this.congr (cutP_zero l)
  have B1 : Hid (Below w.heap.size w w1) := by rw [← hw1]; exact rnewW_below w _
  clear hw1
  go_loopw [32] (fun iv wr => ∃ j : Nat, j ≤ (n + 7) / 8 ∧ iv = .int .i64 j ∧ RefAt wr (w.heap.size + 1) w.heap.size n (cutP l (8 * j)) ∧ Below w.heap.size w wr) (fun iv _ => (n + 7) / 8 - (intOf iv).toNat)
  case atStart => exact ⟨0, Nat.zero_le _, rfl, R1.out, B1.out⟩
  case round =>
    obtain ⟨j, hj, rfl, hR, hBe⟩ := hrel
    have HR : Hid (RefAt _ (w.heap.size + 1) w.heap.size n (cutP l (8 * j))) := hR
    have HBe : Hid (Below w.heap.size w _) := hBe
    by_cases hlt : j < (n + 7) / 8
    · have hby := byte_lt l HB.out j
      obtain ⟨y, hy⟩ : ∃ y : Nat, (l.getD j 0).toNat = y := ⟨_, rfl⟩
      have hyi : l.getD j 0 = (y : Int) := by omega
      have hy8 : y ≤ 255 := by omega
      have HY : Hid ((l.getD j 0).toNat = y) := hy
      obtain h0 | ⟨bl, off, rfl, hbs, hc⟩ := HL.out
      · have := HZ.out; rw [h0] at this; simp at this; omega
      have hcell := (hBe.cell (p := ⟨bl, off + j, none⟩) hbs).trans (hc j (by rw [HZ.out]; exact hlt))
      rw [hyi] at hcell
      clear hR hBe hc hbs hby hy hyi
      go_wp2
      go_loopw [9, 10] (fun cv kv wq => ∃ t c : Nat, t ≤ 8 ∧ c ≤ 255 ∧ cv = .int .i64 c ∧ kv = .int .i64 t ∧ Hid (y / 2 ^ t = c) ∧ RefAt wq (w.heap.size + 1) w.heap.size n (cutP l (8 * j + t)) ∧ Below w.heap.size w wq) (fun _ kv _ => 8 - (intOf kv).toNat)
      case atStart => exact ⟨0, y, by omega, hy8, rfl, rfl, by show _ = _; simp, HR.out, HBe.out⟩
      case round =>
        obtain ⟨t, c, ht, hc8, rfl, rfl, HC, hR, hBe⟩ := hrel
        have HR2 : Hid (RefAt _ (w.heap.size + 1) w.heap.size n (cutP l (8 * j + t))) := hR
        have HB2 : Hid (Below w.heap.size w _) := hBe
        by_cases ht8 : t < 8
        · have hbit : fB l (8 * j + t) = decide (c % 2 = 1) := by rw [fB_at l j t ht8, HY.out, Nat.testBit_eq_decide_div_mod_eq, HC.out]
          have HC2 : Hid (y / 2 ^ (t + 1) = c / 2) := by show _ = _; rw [Nat.pow_succ, ← Nat.div_div_eq_div_mul, HC.out]
          rcases Nat.mod_two_eq_zero_or_one c with hm | hm
          · have hmi : ((c : Int) % 2) = 0 := by omega
            have HR3 : Hid (RefAt _ (w.heap.size + 1) w.heap.size n (cutP l (8 * j + (t + 1)))) := hR.congr (cut_same l _ (by rw [hbit, hm]; rfl))
            clear hR hBe hbit
            go_wp2
            go_roundw
            case rel => exact ⟨t + 1, c / 2, by omega, by omega, by go_num, by go_num, HC2, HR3.out, HB2.out⟩
            case measure => simp [intOf]; omega
          · have hmi : ((c : Int) % 2) = 1 := by omega
            have HF : Hid (fB l (8 * j + t) = true) := by show _ = _; rw [hbit, hm]; rfl
            by_cases hp : 8 * j + t < n
            · have hs := hR.ins
              have hcl := hR.cell (8 * j + t) hp
              have hth := hR.thawed (8 * j + t)
              have HR3 : Hid (RefAt (World.setCell _ ⟨w.heap.size, 8 * j + t, none⟩ (.bool true)) (w.heap.size + 1) w.heap.size n (cutP l (8 * j + (t + 1)))) := (hR.stored true hp).congr (cut_more l _ HF.out)
              clear hR hBe hbit
              go_wp2
              go_roundw
              case rel => exact ⟨t + 1, c / 2, by omega, by omega, by go_num, by go_num, HC2, HR3.out, HB2.out.setCell (Nat.le_refl _) _⟩
              case measure => simp [intOf]; omega
            · have HX : Hid (∃ i, fB l i = true ∧ n ≤ i) := ⟨_, HF.out, by omega⟩
              clear hR hBe hbit
              go_wp2
              go_ret2
              exact .inl ⟨rfl, HB2.out, HX.out⟩
        · obtain rfl : t = 8 := by omega
          have HR3 : Hid (RefAt _ (w.heap.size + 1) w.heap.size n (cutP l (8 * (j + 1)))) := hR
          clear hR hBe
          go_wp2
          go_roundw
          case rel => exact ⟨j + 1, by omega, by go_num, HR3.out, HB2.out⟩
          case measure => simp [intOf]; omega
    · obtain rfl : j = (n + 7) / 8 := by omega
      rw [← HZ.out] at hR
      have HE : Hid (RefAt _ (w.heap.size + 1) w.heap.size n (fB l)) := hR.congr (cutP_all l)
      clear hR hBe
      go_wp2
      go_ret2
      exact .inr ⟨rfl, HE.out, HBe.out⟩
end Go.Proofs.YtnolbcbcboeaoaaDoor
