/- What Lay answers, the code's and the document's. -/
import Derived.Test.YtgmmgklcndnehaaDoorGzAF
namespace Go.Proofs.YtgmmgklcndnehaaDoor
open Go.RowKit Go.Maps
set_option linter.unusedVariables false
set_option maxRecDepth 4000

/-- Under way: so many sectors have been laid. -/
def layK (l : List Int) (k : Nat) : Dk := ⟨l.length / 64, fun i => if i < k then (l.drop (64 * i)).take 64 else zeros, [], 0, false, 0⟩
theorem layK_zero (l : List Int) : layK l 0 = newD (l.length / 64) := by simp [layK, newD]
theorem layK_ok {l : List Int} (hb : AllB l) (h : l.length ≤ 64 * 65536) (k : Nat) : DkOk (layK l k) :=
  ⟨by show l.length / 64 ≤ 65536; omega, fun i hi => by
    have hi' : i < l.length / 64 := hi
    show (if i < k then (l.drop (64 * i)).take 64 else zeros).length = 64 ∧ AllB (if i < k then (l.drop (64 * i)).take 64 else zeros)
    split
    · exact ⟨by simp; omega, (hb.drop _).take _⟩
    · exact ⟨zeros_len, zeros_allB⟩, fun x hx => by (cases hx), by simp [layK]⟩

theorem IsD.layNext {w w2 w3 : World} {base b bs bn cp ns nn k : Nat} {ap : Option Addr} {f : Int → Option (List Int)} {g : Int → Option Nat} {l : List Int} (h : DiskAt w base b bs bn ap cp ns nn f g (layK l k)) (hk : k < l.length / 64) (hb : Below w.heap.size w w2)
    (hS : MapS w3 bs (ns + 1) (updF f k ((l.drop (64 * k)).take 64))) (ht : w2.mapTurned w3 bs) : DiskAt w3 base b bs bn ap cp (ns + 1) nn (updF f k ((l.drop (64 * k)).take 64)) g (layK l (k + 1)) := by
  have hel := turned_else ht
  have h2 := h.same (same_below hb)
  obtain ⟨es, c, hq⟩ := h2.sure.block
  have hne : ∀ (i : Nat) (o : Obj), w2.heap[i]? = some o → (∀ es c, o ≠ .map es c) → w3.heap[i]? = some o := fun i o ho hn => by
    rw [hel.2 i (fun e => by subst e; rw [hq] at ho; cases ho; exact hn _ _ rfl)]; exact ho
  refine ⟨hne b _ h2.box (fun _ _ e => by cases e), hS, h2.newest.same (fun o ho _ => by rw [hel.2 bn (Ne.symm h.apart)]; exact ho), ?_, h.apart, h.ge, fun i hi => ?_, fun i l' hl => ?_, h.new⟩
  · obtain ⟨h0, h1 | ⟨q, c', cur, h1, hg1, e2, e3⟩⟩ := h2.row
    · exact ⟨h0, .inl h1⟩
    · exact ⟨h0, .inr ⟨q, c', cur, h1, hg1, hne q _ e2 (fun _ _ e => by cases e), e3⟩⟩
  · have hi' : i < (layK l k).n := hi
    have := h.fit i hi'
    unfold updF
    by_cases e : i = k
    · subst e; simp [layK]
    · have e' : ¬ (i : Int) = (k : Int) := by omega
      simp only [e', if_false]
      rw [this]
      show (if i < k then _ else _) = (if i < k + 1 then _ else _)
      by_cases h1 : i < k
      · rw [if_pos h1, if_pos (by omega)]
      · rw [if_neg h1, if_neg (by omega)]
  · unfold updF at hl
    by_cases e : i = (k : Int)
    · exact ⟨k, e, hk⟩
    · simp only [e, if_false] at hl
      exact h.keys i l' hl

theorem IsD.lower {w : World} {base base' b m : Nat} {d : Dk} (h : IsD w base b m d) (hb : base' ≤ base) : IsD w base' b m d := by
  obtain ⟨bs, bn, ap, cp, ns, nn, f, g, h, r⟩ := h
  refine ⟨bs, bn, ap, cp, ns, nn, f, g, ⟨h.box, h.sure, h.newest, ?_, h.apart, ⟨by have := h.ge; omega, by have := h.ge; omega, by have := h.ge; omega⟩, h.fit, h.keys, h.new⟩, r⟩
  obtain ⟨h0, h1 | ⟨q, c', cur, h1, hg1, e2⟩⟩ := h.row
  · exact ⟨h0, .inl h1⟩
  · exact ⟨h0, .inr ⟨q, c', cur, h1, by omega, e2⟩⟩

set_option maxHeartbeats 8000000 in
theorem lay_fit (base : Nat) (a : Option Addr) (cap : Nat) (l : List Int) (w : World) (hB : IsB w a l) (h : l.length % 64 = 0) (h8 : 8 ≤ l.length / 64) (h6 : l.length / 64 ≤ 65536) (hc : l.length ≤ cap) (hcm : cap ≤ maxLen) (hbase : base ≤ w.heap.size) :
    Calls Tryd.prog 18 #[.slice a l.length cap] w fun e w' => ∃ b, e = .returned (.tuple #[.pointer (some ⟨b, 0, none⟩), .int .i64 0]) ∧ IsD w' base b (l.length / 64) (layD l) ∧ Below w.heap.size w w' := by
  unfold maxLen at hcm
  have tm : (l.length : Int).tmod 64 = 0 := by rw [Int.tmod_eq_emod_of_nonneg (by omega)]; omega
  have td : (l.length : Int).tdiv 64 = ((l.length / 64 : Nat) : Int) := by rw [Int.tdiv_eq_ediv_of_nonneg (by omega)]; omega
  have HB : Hid (IsB w a l) := hB
  have AB : Hid (AllB l) := hB.1
  obtain ⟨_, rfl | ⟨ib, io, rfl, hib, _⟩⟩ := hB
  · simp at h8
  obtain ⟨n, hn⟩ : ∃ n, l.length / 64 = n := ⟨_, rfl⟩
  have EN : Hid (l.length / 64 = n) := hn
  have hl : l.length = 64 * n := by omega
  have HL : Hid (l.length = 64 * n) := hl
  rw [hn] at td h8 h6 ⊢
  have wk := wrap_i64 (x := (n : Int)) (by omega)
  clear hn h
  go_enter Tryd.func18, Tryd.ntmps18
  go_wp2_with fail
  refine (new_fit n w h8 h6).mono ?_
  rintro e w1 ⟨rfl, hw1⟩
  obtain ⟨b, hb⟩ : ∃ b, w.heap.size + 2 = b := ⟨_, rfl⟩
  have I1 : Hid (IsD w1 w.heap.size b 0 (layK l 0)) := by show IsD _ _ _ _ _; rw [layK_zero, EN.out, ← hb, ← hw1]; exact newW_is w _ n (Nat.le_refl _) h6
  have B1 : Hid (Below w.heap.size w w1) := by show Below _ _ _; rw [← hw1]; exact newW_below w n
  have GB : Hid (w.heap.size ≤ b) := by show _ ≤ _; omega
  have k0 : w1.cell? ⟨b, 0, none⟩ = some (.int .i64 (n : Nat)) := by
    obtain ⟨bs, bn, ap, cp, ns, nn, f, g, hA, _⟩ := I1.out
    have := hA.cell 0
    rw [this]
    show some (Value.int .i64 ((l.length / 64 : Nat) : Int)) = _
    rw [EN.out]
  rw [hb]
  clear hw1 hb
  go_wp2
  go_loopw [25] (fun iv wr => ∃ (k : Nat), k ≤ n ∧ iv = .int .i64 (k : Nat) ∧ IsD wr w.heap.size b k (layK l k) ∧ Turn w.heap.size KC w wr) (fun iv _ => n - (intOf iv).toNat)
  case atStart => exact ⟨0, Nat.zero_le _, rfl, I1.out, Turn.ofBelow B1.out⟩
  case round =>
    clear I1 B1 k0
    obtain ⟨k, hk, rfl, hI, hT⟩ := hrel
    rename World => wr
    have HT : Hid (Turn w.heap.size KC w wr) := hT
    by_cases hlt : k < n
    · obtain ⟨bs, bn, ap, cp, ns, nn, f, g, hA, hm1, hm2, _⟩ := hI
      have HM : Hid (ns + (layK l k).pend.length ≤ k ∧ nn ≤ k) := ⟨hm1, hm2⟩
      have hns : ns ≤ k := by have := hm1; simp [layK] at this; omega
      have HA : Hid (DiskAt wr w.heap.size b bs bn ap cp ns nn f g (layK l k)) := hA
      have k1 : wr.cell? ⟨b, 1, none⟩ = some (.map (some bs)) := hA.cell 1
      have hbw : b < wr.heap.size := (Array.getElem?_eq_some_iff.1 hA.box).1
      have hnb : bs ≠ b := hA.apart1
      obtain ⟨X, hX⟩ : ∃ X, (l.drop (64 * k)).take 64 = X := ⟨_, rfl⟩
      have EX : Hid ((l.drop (64 * k)).take 64 = X) := hX
      have XL : Hid (X.length = 64) := by show _ = _; rw [← hX]; simp; omega
      have IW : Hid (IsB wr (some ⟨ib, io + k * 64, none⟩) X) := by
        have := IsB.part (HB.out.keep (HT.out.below (Nat.le_refl _))) (64 * k) 64 rfl
        rw [hX, Nat.mul_comm 64 k] at this
        exact this
      have w1' := wrap_i64 (x := (k : Int) * 64) (by omega)
      have w2' := wrap_i64 (x := (k : Int) + 1) (by omega)
      have w3' := wrap_i64 (x := ((k : Int) + 1) * 64) (by omega)
      have f1 : (0 : Int) ≤ (k : Int) * 64 := by omega
      have f2 : (k : Int) * 64 ≤ ((k : Int) + 1) * 64 := by omega
      have f3 : ((k : Int) + 1) * 64 ≤ (cap : Int) := by omega
      have f4 : ¬ cap = k * 64 := by omega
      have f5 : ((k : Int) * 64).toNat = k * 64 := by omega
      have f6 : (((k : Int) + 1) * 64).toNat = (k + 1) * 64 := by omega
      have f7 : (0 : Int) ≤ ((k : Int) + 1) * 64 := by omega
      have f8 : (k + 1) * 64 - k * 64 = 64 := by omega
      have f9 : (k + 1) * 64 ≤ cap := by omega
      have fa : ¬ (k : Int) + 1 < (k : Int) := by omega
      clear hA hT hm1 hm2 hX
      go_wp2_with fail
      go_region_held3 (fun w' => w'.cell? ⟨b, 1, none⟩ = some (.map (some bs))) (first | assumption | go_keep) (first
        | (go_at_call 36; refine (filled_any _ _ _ X _ XL.out.symm ?_ (by rw [XL.out]; decide)).mono ?_; exact IW.out; rw [secL_full XL.out]; rintro e w2 ⟨rfl, b2⟩; have B2 : Hid (Below wr.heap.size wr w2) := ⟨b2.os, b2.tape, b2.output, b2.size, b2.block⟩; have s2 : w2.cell? ⟨b, 1, none⟩ = some (.map (some bs)) := (B2.out.cell (p := ⟨b, 1, none⟩) hbw).trans k1; obtain ⟨w3, hupd, hM3, ht3⟩ := MapS.store (HA.out.sure.same (fun o ho hk => same_below B2.out _ o ho hk)) (show ns < 1000000 by omega) (i := (k : Int)) (by omega) X; have s3 : w3.cell? ⟨b, 1, none⟩ = some (.map (some bs)) := (World.cell?_of_block ((turned_else ht3).2 b (Ne.symm hnb))).trans s2; have HM3 : Hid (MapS w3 bs (ns + 1) (updF f k X)) := hM3; have HT3 : Hid (w2.mapTurned w3 bs) := ht3; clear b2 hM3 ht3))
      have NX : Hid (IsD w3 w.heap.size b (k + 1) (layK l (k + 1))) := by
        refine ⟨bs, bn, ap, cp, ns + 1, nn, updF f k X, g, ?_, by have := HM.out.1; simp [layK] at this ⊢; omega, by have := HM.out.2; omega, layK_ok AB.out (by have := HL.out; omega) _⟩
        have := IsD.layNext HA.out (by have := EN.out; omega) B2.out (by rw [EX.out]; exact HM3.out) HT3.out
        rwa [EX.out] at this
      have TX : Hid (Turn w.heap.size KC w w3) := (HT.out.trans (Turn.ofBelow B2.out)).trans (turned_turn HT3.out HA.out.ge.2.1)
      clear hupd s2 s3
      go_wp2
      go_roundw
      case rel => exact ⟨k + 1, by omega, by go_num, NX.out, TX.out⟩
      case measure => simp [intOf]; omega
    · obtain rfl : k = n := by omega
      have I9 : Hid (IsD wr base b k (layD l)) := by
        have h9 := hI.lower hbase
        obtain ⟨bs, bn, ap, cp, ns, nn, f, g, hA, h1, h2, _⟩ := h9
        refine ⟨bs, bn, ap, cp, ns, nn, f, g, ⟨hA.box, hA.sure, hA.newest, hA.row, hA.apart, hA.ge, fun i hi => ?_, hA.keys, hA.new⟩, h1, h2, layD_ok AB.out (by have := HL.out; omega)⟩
        have hi' : i < l.length / 64 := hi
        have := hA.fit i hi
        rw [this]
        show (if i < k then _ else _) = _
        rw [if_pos (by have := EN.out; omega)]
        rfl
      clear hI hT
      go_wp2
      go_ret2
      exact ⟨b, rfl, I9.out, HT.out.below (Nat.le_refl _)⟩
end Go.Proofs.YtgmmgklcndnehaaDoor
