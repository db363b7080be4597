/- What is written one thing behind the other: the first loop of the law NumBack. -/
import Derived.Test.YtdhamfhicdcdgaaNumCl
import Derived.Test.YtdhamfhicdcdgaaNumP3
import Derived.Laws.AppendOwnNone
import Derived.Deep.RegionHeld3
namespace Go.Proofs.Ytdhamfhicdcdgaa
open Go.RowKit
set_option linter.unusedVariables false

/-- A slice of items: what its cells hold; no item's bytes are told but by their list. -/
def IsI (w : World) (a : Option Addr) (n : Nat) (kd wd nn : Nat → Int) (ba : Nat → Option Addr) (bc : Nat → Nat) (bl : Nat → List Int) : Prop :=
  (n = 0 ∨ ∃ b off, a = some ⟨b, off, none⟩ ∧ b < w.heap.size ∧ ∀ i, i < n →
    w.cell? ⟨b, off + i * 4, none⟩ = some (.int .i64 (kd i)) ∧ w.cell? ⟨b, off + i * 4 + 1, none⟩ = some (.int .i64 (wd i)) ∧ w.cell? ⟨b, off + i * 4 + 2, none⟩ = some (.int .u64 (nn i)) ∧ w.cell? ⟨b, off + i * 4 + 3, none⟩ = some (.slice (ba i) (bl i).length (bc i))) ∧
  ∀ i, i < n → IsB w (ba i) (bl i) ∧ 0 ≤ nn i ∧ nn i ≤ 18446744073709551615 ∧ (ba i = none → bl i = [] ∧ bc i = 0)

theorem isI_keep {w w' : World} {a : Option Addr} {n : Nat} {kd wd nn : Nat → Int} {ba : Nat → Option Addr} {bc : Nat → Nat} {bl : Nat → List Int} (h : IsI w a n kd wd nn ba bc bl) (hb : Below w.heap.size w w') : IsI w' a n kd wd nn ba bc bl := by
  obtain ⟨h1, h2⟩ := h
  refine ⟨?_, fun i hi => ⟨isB_keep (h2 i hi).1 hb, (h2 i hi).2⟩⟩
  rcases h1 with h1 | ⟨b, off, e, hs, hc⟩
  · exact .inl h1
  · refine .inr ⟨b, off, e, by have := hb.size; omega, fun i hi => ?_⟩
    obtain ⟨c0, c1, c2, c3⟩ := hc i hi
    rw [hb.cell (p := ⟨b, off + i * 4, none⟩) hs, hb.cell (p := ⟨b, off + i * 4 + 1, none⟩) hs, hb.cell (p := ⟨b, off + i * 4 + 2, none⟩) hs, hb.cell (p := ⟨b, off + i * 4 + 3, none⟩) hs]
    exact ⟨c0, c1, c2, c3⟩

/-- What is written of one item. -/
def enc1 (kd nn : Int) (bl : List Int) : List Int := if kd = 0 then varL nn else if kd = 1 then putL 8 nn else bl

/-- What is written of the first k. -/
def encTo (kd nn : Nat → Int) (bl : Nat → List Int) : Nat → List Int
  | 0 => []
  | k + 1 => encTo kd nn bl k ++ enc1 (kd k) (nn k) (bl k)

theorem ownsB_keep {w w' : World} {base cap : Nat} {a : Option Addr} {l : List Int} (h : OwnsB w base a l cap) (hb : Below w.heap.size w w') : OwnsB w' base a l cap := by
  obtain ⟨h1, h2⟩ := h
  refine ⟨h1, ?_⟩
  rcases h2 with h2 | ⟨g, c, cur, e1, e2, e3, e4⟩
  · exact .inl h2
  · exact .inr ⟨g, c, cur, e1, e2, (hb.block g (lt_of_block e3)).trans e3, e4⟩

theorem cells_news {w : World} {a : Addr} {l : List Int} (h : IsB w (some a) l) : ∀ j u, (l.map (Value.int .u8))[j]? = some u → w.cell? (a.add j) = some u := by
  intro j u hj
  have hj' : j < l.length := by
    have := (List.getElem?_eq_some_iff.1 hj).1
    simpa using this
  obtain ⟨_, rfl | ⟨b, off, e, _, hc⟩⟩ := h
  · simp at hj'
  · cases e
    rw [addr_add, hc j hj', ← hj]
    simp [List.getD, hj']

theorem news_one (l : List Int) : ∀ u ∈ l.map (Value.int .u8), u.oneCell' = true := by
  intro u hu
  obtain ⟨x, _, rfl⟩ := List.mem_map.1 hu
  rfl

/-- What is written of r items from the k-th one on. -/
def encFrom (kd nn : Nat → Int) (bl : Nat → List Int) : Nat → Nat → List Int
  | 0, _ => []
  | r + 1, k => enc1 (kd k) (nn k) (bl k) ++ encFrom kd nn bl r (k + 1)

theorem enc_split (kd nn : Nat → Int) (bl : Nat → List Int) : ∀ (r k : Nat), encTo kd nn bl k ++ encFrom kd nn bl r k = encTo kd nn bl (k + r)
  | 0, k => by simp [encFrom]
  | r + 1, k => by
    rw [encFrom, ← List.append_assoc]
    have := enc_split kd nn bl r (k + 1)
    rw [encTo] at this
    rw [this, show k + 1 + r = k + (r + 1) from by omega]

theorem enc_byte (kd nn : Nat → Int) (bl : Nat → List Int) (n : Nat) (h : ∀ i, i < n → (∀ x ∈ bl i, 0 ≤ x ∧ x ≤ 255) ∧ 0 ≤ nn i ∧ nn i ≤ 18446744073709551615) : ∀ k, k ≤ n → ∀ x ∈ encTo kd nn bl k, 0 ≤ x ∧ x ≤ 255
  | 0, _, x, hx => by simp [encTo] at hx
  | k + 1, hk, x, hx => by
    rw [encTo, List.mem_append] at hx
    rcases hx with hx | hx
    · exact enc_byte kd nn bl n h k (by omega) x hx
    · obtain ⟨h1, h2, h3⟩ := h k (by omega)
      rw [enc1] at hx
      split at hx
      · exact varL_byte (nn k) h2 h3 x hx
      · split at hx
        · exact putL_byte 8 (nn k) x hx
        · exact h1 x hx

/-- A number that was written is read. -/
theorem upto_back (B : Nat) (m : Int) (rest : List Int) (w : World) (h : RdAt w B (varL m ++ rest) 0) (h0 : 0 ≤ m) (h1 : m ≤ 18446744073709551615) :
    Calls Try.prog 24 #[.pointer (some ⟨B, 0, none⟩), .int .u64 m] w fun r w' => r = .returned (.int .u64 m) ∧ RdAt w' B rest 0 ∧ w.grownBy w' (some B) := by
  have := upto_any B (varL m ++ rest) 0 m w h
  rw [show upS (varL m ++ rest) 0 m = (m, rest, 0) from by rw [upS, if_pos rfl, rdL_digs m rest h0 h1]; simp only [if_true]; rw [if_pos (Int.le_refl m)]; simp] at this
  exact this

theorem fixed_back (B : Nat) (m : Int) (rest : List Int) (w : World) (h : RdAt w B (putL 8 m ++ rest) 0) (h0 : 0 ≤ m) (h1 : m ≤ 18446744073709551615) :
    Calls Try.prog 20 #[.pointer (some ⟨B, 0, none⟩), .int .i64 8] w fun r w' => r = .returned (.int .u64 m) ∧ RdAt w' B rest 0 ∧ w.grownBy w' (some B) := by
  have := fixed_any B (putL 8 m ++ rest) 0 8 8 w h (by decide) (by decide)
  rw [show fxS (putL 8 m ++ rest) 0 8 = (m, rest, 0) from by
    rw [fxS, if_pos rfl, if_pos (by rw [List.length_append, putL_length]; omega), List.take_left' (putL_length 8 m), List.drop_left' (putL_length 8 m), getL_putL8 m h0 h1]] at this
  exact this

theorem bytes_back (B : Nat) (l rest : List Int) (w : World) (h : RdAt w B (l ++ rest) 0) (hm : (l ++ rest).length ≤ 140737488355328) :
    Calls Try.prog 26 #[.pointer (some ⟨B, 0, none⟩), .int .i64 l.length] w fun r w' => ∃ a cap, r = .returned (.slice a l.length cap) ∧ FreshB w' w.heap.size a l cap ∧ RdAt w' B rest 0 ∧ w.grownBy w' (some B) := by
  have := bytes_any B (l ++ rest) 0 l.length l.length w h (by omega) hm
  rw [show bsS (l ++ rest) 0 (l.length : Int).toNat = (l, rest, 0) from by
    rw [Int.toNat_natCast, bsS, if_pos rfl, if_pos (by rw [List.length_append]; omega), List.take_left' rfl, List.drop_left' rfl]] at this
  exact this

theorem below_rd {w w1 w2 : World} {B B0 : Nat} (h : Below B0 w w1) (hs : B0 ≤ w1.heap.size) (hB : B0 ≤ B) (hg : w1.drew.grownBy w2 (some B)) : Below B0 w w2 :=
  Below.grown h.drew hg hs (fun q hq => by cases hq; exact hB)

theorem fresh_isB {w : World} {base cap : Nat} {a : Option Addr} {l : List Int} (hb : ∀ x ∈ l, 0 ≤ x ∧ x ≤ 255) (h : FreshB w base a l cap) : IsB w a l := by
  rcases h with rfl | ⟨g, rfl, _, h⟩
  · exact ⟨by simp, .inl rfl⟩
  · exact isB_owns hb h

theorem own_none {w : World} {base cap : Nat} {a : Option Addr} {l : List Int} (h : OwnsB w base a l cap) : a = none → l = [] := by
  rintro rfl
  obtain ⟨_, ⟨_, h2⟩ | ⟨g, c', cur, h1, _⟩⟩ := h
  · exact List.eq_nil_of_length_eq_zero h2
  · cases h1

set_option maxRecDepth 100000 in
set_option maxHeartbeats 4000000 in
theorem back_walk (a : Option Addr) (n cap : Nat) (kd wd nn : Nat → Int) (ba : Nat → Option Addr) (bc : Nat → Nat) (bl : Nat → List Int) (w : World) (hI : IsI w a n kd wd nn ba bc bl) (hn : n ≤ 100) :
    Calls Try.prog 6 #[.slice a n cap] w fun e w' => e = .returned (.bool true) ∧ Below w.heap.size w w' := by
  obtain ⟨i0, hi, hz0, hz1, hz2⟩ := info_parts Try.info5
  have HI : Hid (IsI w a n kd wd nn ba bc bl) := hI
  clear hI
  go_enter Try.func6, Try.ntmps6
  go_wp2_with fail
  refine (alive_any w).mono ?_
  rintro e w1 ⟨rfl, b1⟩
  go_wp2
  go_loopw [3, 16] (fun v i wr => ∃ (k : Nat) (al : Option Addr) (ac : Nat), k ≤ n ∧ i = .int .i64 k ∧ v = .slice al (encTo kd nn bl k).length ac ∧ (encTo kd nn bl k).length ≤ k * 1000 ∧ OwnsB wr w.heap.size al (encTo kd nn bl k) ac ∧ Below w.heap.size w wr) (fun _ i _ => n - (intOf i).toNat)
  case atStart => exact ⟨0, none, 0, Nat.zero_le _, rfl, rfl, Nat.zero_le _, World.ownsRow_nil _ _ _ _, b1⟩
  case round =>
    obtain ⟨k, al, ac, hk, rfl, rfl, hL, hown, hnx⟩ := hrel
    by_cases hlt : k < n
    · rcases HI.out.1 with h0 | ⟨cb, co, rfl, hcb, hcc⟩
      · omega
      obtain ⟨x0, x1, x2, x3⟩ := hcc k hlt
      rw [← hnx.cell (p := ⟨cb, co + k * 4, none⟩) hcb] at x0
      rw [← hnx.cell (p := ⟨cb, co + k * 4 + 1, none⟩) hcb] at x1
      rw [← hnx.cell (p := ⟨cb, co + k * 4 + 2, none⟩) hcb] at x2
      rw [← hnx.cell (p := ⟨cb, co + k * 4 + 3, none⟩) hcb] at x3
      clear hcc
      by_cases hlong : 1000 < (bl k).length
      · go_wp2
        go_ret
        exact ⟨rfl, hnx.alloc hnx.size _⟩
      · obtain ⟨iB, n0, n1, inil⟩ := HI.out.2 k hlt
        have HB : Hid (IsB w (ba k) (bl k)) := iB
        clear iB
        have hsz := hnx.size
        by_cases hk0 : kd k = 0
        · have q0 : (kd k == 0) = true := by simp [hk0]
          have HE : Hid (encTo kd nn bl (k + 1) = encTo kd nn bl k ++ varL (nn k)) := by show _ = _; rw [encTo, enc1, if_pos hk0]
          have hv := varL_le (nn k)
          clear hk0 inil
          go_wp2_with fail
          refine (var_any (nn k) _ n0 n1).mono ?_
          rintro e w2 ⟨rfl, ho2, b2⟩
          have z1 : (wr.alloc (.cells #[.int .i64 (kd k), .int .i64 (wd k), .int .u64 (nn k), .slice (ba k) (bl k).length (bc k)] 53)).heap.size = wr.heap.size + 1 := by simp
          rw [z1] at ho2 b2
          have i2 := isB_owns (varL_byte (nn k) n0 n1) ho2
          have bb : Below wr.heap.size wr w2 := ((Below.refl _ wr).alloc (Nat.le_refl _) _).trans (b2.mono (by omega))
          have hown2 := ownsB_keep hown bb
          have hnx2 : Below w.heap.size w w2 := hnx.trans (bb.mono hsz)
          have HI2 : Hid (IsB w2 (some ⟨wr.heap.size + 1, 0, none⟩) (varL (nn k))) := i2
          clear i2 ho2 z1 b2
          go_wp2_with (at_builtin; refine wpList_append_own _ rfl (.tmp 32) (.tmp 35) 23 rfl w.heap.size 5 i0 (.int .u8 0) 1 1 Try.underlying23 hi hz0 hz1 hz2 rfl (by decide) (.slice al (encTo kd nn bl k).length ac) (encTo kd nn bl k).length _ rfl hown2 ⟨wr.heap.size + 1, 0, none⟩ (varL (nn k)).length (varL (nn k)).length ((varL (nn k)).map (Value.int .u8)) rfl (by simp) (cells_news HI2.out) (news_one _) (by unfold maxLen; omega) (by omega) hnx2.size ?_; intro v1 w3 hown3 hgrow3 hnil3)
          obtain ⟨a1, cap1, rfl⟩ := owns_form hown3
          have R : OwnsB w3 w.heap.size a1 (encTo kd nn bl (k + 1)) cap1 := by rw [OwnsB, HE.out]; simpa using hown3
          have hb3 : Below w.heap.size w w3 := hnx2.grown hgrow3 hnx2.size (own_ge hown2)
          have hlen : (encTo kd nn bl k).length + (varL (nn k)).length = (encTo kd nn bl (k + 1)).length := by rw [HE.out]; simp
          go_roundw
          case rel => exact ⟨k + 1, a1, cap1, by omega, by go_num, by rw [hlen], by omega, R, hb3⟩
          case measure => simp [intOf]; omega
        · have q0 : (kd k == 0) = false := by rw [beq_eq_false_iff_ne]; exact hk0
          by_cases hk1 : kd k = 1
          · have q1 : (kd k == 1) = true := by simp [hk1]
            have HE : Hid (encTo kd nn bl (k + 1) = encTo kd nn bl k ++ putL 8 (nn k)) := by show _ = _; rw [encTo, enc1, if_neg hk0, if_pos hk1]
            clear hk0 hk1 inil
            go_wp2_with fail
            refine (put_is (nn k) 8 8 (by decide) n0 n1 _).mono ?_
            rintro e w2 ⟨rfl, s2, ho2, b2⟩
            have z1 : (wr.alloc (.cells #[.int .i64 (kd k), .int .i64 (wd k), .int .u64 (nn k), .slice (ba k) (bl k).length (bc k)] 53)).heap.size = wr.heap.size + 1 := by simp
            rw [z1] at ho2 b2
            have bb : Below wr.heap.size wr w2 := ((Below.refl _ wr).alloc (Nat.le_refl _) _).trans (b2.mono (by omega))
            have hown2 := ownsB_keep hown bb
            have hnx2 : Below w.heap.size w w2 := hnx.trans (bb.mono hsz)
            have HI2 : Hid (IsB w2 (some ⟨wr.heap.size + 1, 0, none⟩) (putL 8 (nn k))) := ho2
            clear ho2 z1 b2 s2
            go_wp2_with (at_builtin; refine wpList_append_own _ rfl (.tmp 39) (.tmp 42) 23 rfl w.heap.size 5 i0 (.int .u8 0) 1 1 Try.underlying23 hi hz0 hz1 hz2 rfl (by decide) (.slice al (encTo kd nn bl k).length ac) (encTo kd nn bl k).length _ rfl hown2 ⟨wr.heap.size + 1, 0, none⟩ 8 8 ((putL 8 (nn k)).map (Value.int .u8)) rfl (by simp [putL_length]) (cells_news HI2.out) (news_one _) (by unfold maxLen; omega) (by omega) hnx2.size ?_; intro v1 w3 hown3 hgrow3 hnil3)
            obtain ⟨a1, cap1, rfl⟩ := owns_form hown3
            have R : OwnsB w3 w.heap.size a1 (encTo kd nn bl (k + 1)) cap1 := by rw [OwnsB, HE.out]; simpa [putL_length] using hown3
            have hb3 : Below w.heap.size w w3 := hnx2.grown hgrow3 hnx2.size (own_ge hown2)
            have hlen : (encTo kd nn bl k).length + 8 = (encTo kd nn bl (k + 1)).length := by rw [HE.out]; simp [putL_length]
            go_roundw
            case rel => exact ⟨k + 1, a1, cap1, by omega, by go_num, by rw [hlen], by omega, R, hb3⟩
            case measure => simp [intOf]; omega
          · have q1 : (kd k == 1) = false := by rw [beq_eq_false_iff_ne]; exact hk1
            have HE : Hid (encTo kd nn bl (k + 1) = encTo kd nn bl k ++ bl k) := by show _ = _; rw [encTo, enc1, if_neg hk0, if_neg hk1]
            clear hk0 hk1
            have bb : Below wr.heap.size wr (wr.alloc (.cells #[.int .i64 (kd k), .int .i64 (wd k), .int .u64 (nn k), .slice (ba k) (bl k).length (bc k)] 53)) := (Below.refl _ wr).alloc (Nat.le_refl _) _
            have hown2 := ownsB_keep hown bb
            have hnx2 := hnx.trans (bb.mono hsz)
            have HI2 : Hid (IsB (wr.alloc (.cells #[.int .i64 (kd k), .int .i64 (wd k), .int .u64 (nn k), .slice (ba k) (bl k).length (bc k)] 53)) (ba k) (bl k)) := isB_keep HB.out hnx2
            rcases hba : ba k with _ | ad
            · obtain ⟨hbl, hbc⟩ := inil hba
              rw [hba, hbl, hbc] at hown2 hnx2 x3
              have HE' : Hid (encTo kd nn bl (k + 1) = encTo kd nn bl k) := by show _ = _; rw [HE.out, hbl, List.append_nil]
              clear hbl hbc hba HI2 inil bb
              go_wp2_with (at_builtin; refine wpList_append_own_none rfl (.tmp 26) (.tmp 28) 23 rfl w.heap.size 5 i0 1 Try.underlying23 hi (.slice al (encTo kd nn bl k).length ac) (encTo kd nn bl k).length _ rfl hown2 rfl ?_)
              go_roundw
              case rel => exact ⟨k + 1, al, ac, by omega, by go_num, by rw [HE'.out], by rw [HE'.out]; omega, by rw [HE'.out]; exact hown2, hnx2⟩
              case measure => simp [intOf]; omega
            · rw [hba] at x3 hown2 hnx2 HI2
              clear hba inil bb
              go_wp2_with (at_builtin; refine wpList_append_own _ rfl (.tmp 26) (.tmp 28) 23 rfl w.heap.size 5 i0 (.int .u8 0) 1 1 Try.underlying23 hi hz0 hz1 hz2 rfl (by decide) (.slice al (encTo kd nn bl k).length ac) (encTo kd nn bl k).length _ rfl hown2 ad (bl k).length (bc k) ((bl k).map (Value.int .u8)) rfl (by simp) (cells_news HI2.out) (news_one _) (by unfold maxLen; omega) (by omega) hnx2.size ?_; intro v1 w3 hown3 hgrow3 hnil3)
              obtain ⟨a1, cap1, rfl⟩ := owns_form hown3
              have R : OwnsB w3 w.heap.size a1 (encTo kd nn bl (k + 1)) cap1 := by rw [OwnsB, HE.out]; simpa using hown3
              have hb3 : Below w.heap.size w w3 := hnx2.grown hgrow3 hnx2.size (own_ge hown2)
              have hlen : (encTo kd nn bl k).length + (bl k).length = (encTo kd nn bl (k + 1)).length := by rw [HE.out]; simp
              go_roundw
              case rel => exact ⟨k + 1, a1, cap1, by omega, by go_num, by rw [hlen], by omega, R, hb3⟩
              case measure => simp [intOf]; omega
    · obtain rfl : k = n := by omega
      have eb := enc_byte kd nn bl k (fun i hi => ⟨(HI.out.2 i hi).1.1, (HI.out.2 i hi).2.1, (HI.out.2 i hi).2.2.1⟩) k (Nat.le_refl _)
      have iall : Hid (IsB wr al (encTo kd nn bl k)) := ownsB_isB eb hown
      have anone : Hid (al = none → encTo kd nn bl k = []) := own_none hown
      have es := enc_split kd nn bl k 0
      rw [Nat.zero_add] at es
      have ES : Hid (encFrom kd nn bl k 0 = encTo kd nn bl k) := by show _ = _; rw [← es]; simp [encTo]
      have hL' : (encTo kd nn bl k).length ≤ 100000 := by omega
      clear eb es hown
      go_wp2_with fail
      refine (open_any al ac (encTo kd nn bl k) wr iall.out (by omega) anone.out).mono ?_
      rintro e w2 ⟨B, rfl, hB1, hB2, hR, b2⟩
      have hsz := hnx.size
      have hnx2 : Below w.heap.size w w2 := hnx.trans (b2.mono hsz)
      rw [← ES.out] at hR
      have hL2 : (encFrom kd nn bl k 0).length ≤ 100000 := by rw [ES.out]; exact hL'
      clear b2 iall anone ES hnx hL hL'
      go_wp2
      go_loopw [49] (fun i wq => ∃ (j r : Nat), j + r = k ∧ i = .int .i64 j ∧ RdAt wq B (encFrom kd nn bl r j) 0 ∧ (encFrom kd nn bl r j).length ≤ 100000 ∧ Below w.heap.size w wq) (fun i _ => k - (intOf i).toNat)
      case atStart => exact ⟨0, k, by omega, rfl, hR, hL2, hnx2⟩
      case round =>
        obtain ⟨j, r, hjr, rfl, hRq, hLq, hbq⟩ := hrel
        by_cases hjk : j < k
        · obtain ⟨r', rfl⟩ : ∃ r', r = r' + 1 := ⟨r - 1, by omega⟩
          rcases HI.out.1 with h0 | ⟨cb, co, rfl, hcb, hcc⟩
          · omega
          obtain ⟨x0, x1, x2, x3⟩ := hcc j hjk
          rw [← hbq.cell (p := ⟨cb, co + j * 4, none⟩) hcb] at x0
          rw [← hbq.cell (p := ⟨cb, co + j * 4 + 1, none⟩) hcb] at x1
          rw [← hbq.cell (p := ⟨cb, co + j * 4 + 2, none⟩) hcb] at x2
          rw [← hbq.cell (p := ⟨cb, co + j * 4 + 3, none⟩) hcb] at x3
          clear hcc
          obtain ⟨iB, n0, n1, inil⟩ := HI.out.2 j hjk
          have HB : Hid (IsB w (ba j) (bl j)) := iB
          have hBq : B < wr.heap.size := by obtain ⟨_, _, hh, _⟩ := hRq; exact lt_of_block hh
          have hszq := hbq.size
          have bo : Below wr.heap.size wr (wr.alloc (.cells #[.int .i64 (kd j), .int .i64 (wd j), .int .u64 (nn j), .slice (ba j) (bl j).length (bc j)] 53)) := (Below.refl _ wr).alloc (Nat.le_refl _) _
          have hbo := hbq.trans (bo.mono hszq)
          have hRo := rd_keep hRq bo
          clear bo iB inil
          by_cases hk0 : kd j = 0
          · have q0 : (kd j == 0) = true := by simp [hk0]
            rw [encFrom, enc1, if_pos hk0] at hRo hLq
            have HRo : Hid (RdAt (wr.alloc (.cells #[.int .i64 (kd j), .int .i64 (wd j), .int .u64 (nn j), .slice (ba j) (bl j).length (bc j)] 53)) B (varL (nn j) ++ encFrom kd nn bl r' (j + 1)) 0) := hRo
            rw [List.length_append] at hLq
            clear hk0 hRo hRq
            go_wp2_with fail
            go_region_held3 (fun w' => w'.cell? ⟨wr.heap.size, 2, none⟩ = some (.int .u64 (nn j))) (first | assumption | simp) (first
              | (go_at_call 24; refine (upto_back B (nn j) (encFrom kd nn bl r' (j + 1)) _ ?_ n0 n1).mono ?_; exact HRo.out; rintro e w5 ⟨rfl, hR5, hg5⟩; have hx5 := hg5.cell (a := ⟨wr.heap.size, 2, none⟩) (v := .int .u64 (nn j)) (by simp) (by intro h; have := Option.some.inj h; simp at this; omega)))
            have hb5 : Below w.heap.size w w5 := Below.grown hbo.drew hg5 hbo.size (fun q hq => by cases hq; omega)
            go_wp2
            go_roundw
            case rel => exact ⟨j + 1, r', by omega, by go_num, hR5, by omega, hb5⟩
            case measure => simp [intOf]; omega
          · have q0 : (kd j == 0) = false := by rw [beq_eq_false_iff_ne]; exact hk0
            by_cases hk1 : kd j = 1
            · have q1 : (kd j == 1) = true := by simp [hk1]
              rw [encFrom, enc1, if_neg hk0, if_pos hk1] at hRo hLq
              have HRo : Hid (RdAt (wr.alloc (.cells #[.int .i64 (kd j), .int .i64 (wd j), .int .u64 (nn j), .slice (ba j) (bl j).length (bc j)] 53)) B (putL 8 (nn j) ++ encFrom kd nn bl r' (j + 1)) 0) := hRo
              rw [List.length_append] at hLq
              clear hk0 hk1 hRo hRq
              go_wp2_with fail
              go_region_held3 (fun w' => w'.cell? ⟨wr.heap.size, 2, none⟩ = some (.int .u64 (nn j))) (first | assumption | simp) (first
                | (go_at_call 20; refine (fixed_back B (nn j) (encFrom kd nn bl r' (j + 1)) _ ?_ n0 n1).mono ?_; exact HRo.out; rintro e w5 ⟨rfl, hR5, hg5⟩; have hx5 := hg5.cell (a := ⟨wr.heap.size, 2, none⟩) (v := .int .u64 (nn j)) (by simp) (by intro h; have := Option.some.inj h; simp at this; omega)))
              have hb5 : Below w.heap.size w w5 := Below.grown hbo.drew hg5 hbo.size (fun q hq => by cases hq; omega)
              go_wp2
              go_roundw
              case rel => exact ⟨j + 1, r', by omega, by go_num, hR5, by omega, hb5⟩
              case measure => simp [intOf]; omega
            · have q1 : (kd j == 1) = false := by rw [beq_eq_false_iff_ne]; exact hk1
              rw [encFrom, enc1, if_neg hk0, if_neg hk1] at hRo hLq
              have HRo : Hid (RdAt (wr.alloc (.cells #[.int .i64 (kd j), .int .i64 (wd j), .int .u64 (nn j), .slice (ba j) (bl j).length (bc j)] 53)) B (bl j ++ encFrom kd nn bl r' (j + 1)) 0) := hRo
              have HLq : Hid ((bl j ++ encFrom kd nn bl r' (j + 1)).length ≤ 140737488355328) := Nat.le_trans hLq (by omega)
              rw [List.length_append] at hLq
              have hbb := HB.out.1
              have Hbb : Hid (∀ x ∈ bl j, 0 ≤ x ∧ x ≤ 255) := hbb
              clear hk0 hk1 hRo hRq hbb
              go_wp2_with fail
              go_region_held3 (fun w' => w'.cell? ⟨wr.heap.size, 3, none⟩ = some (.slice (ba j) (bl j).length (bc j))) (first | assumption | simp) (first
                | (go_at_call 26; refine (bytes_back B (bl j) (encFrom kd nn bl r' (j + 1)) _ ?_ HLq.out).mono ?_; exact HRo.out; rintro e w5 ⟨a5, cap5, rfl, hF5, hR5, hg5⟩; have hx5 := hg5.cell (a := ⟨wr.heap.size, 3, none⟩) (v := .slice (ba j) (bl j).length (bc j)) (by simp) (by intro h; have := Option.some.inj h; simp at this; omega))
                | (go_at_call 10; refine (same_true _ _ _ _ _ _ (bl j) _ ?_ ?_ rfl rfl).mono ?_; exact fresh_isB Hbb.out hF5; exact isB_keep HB.out (below_rd hbo hbo.size (by omega) hg5); rintro e w6 ⟨rfl, rfl⟩))
              have hb5 : Below w.heap.size w w5 := below_rd hbo hbo.size (by omega) hg5
              go_wp2
              go_roundw
              case rel => exact ⟨j + 1, r', by omega, by go_num, hR5, by omega, hb5⟩
              case measure => simp [intOf]; omega
        · obtain rfl : r = 0 := by omega
          obtain ⟨aq, cq, c1, c2, c3, c4, _, _, _⟩ := isB_of_rd hRq
          have c1' : wr.cell? ⟨B, 0, none⟩ = some (.slice aq 0 cq) := c1
          clear hRq c1 hLq
          go_wp2_with fail
          refine (err_two B 0 wr c2).mono ?_
          rintro e w' ⟨rfl, rfl⟩
          go_wp2_with fail
          refine (end_ok B aq cq wr c1' c2).mono ?_
          rintro e w' ⟨rfl, rfl⟩
          go_wp2_with fail
          refine (left_ok B aq 0 cq wr c1' c2).mono ?_
          rintro e w' ⟨rfl, rfl⟩
          go_wp2
          go_ret
          exact ⟨rfl, hbq⟩
end Go.Proofs.Ytdhamfhicdcdgaa
