/- Layer 15: RuE again -/
import Derived.Test.YtgdjlopnhecmjaaGreatDoorGzAL
import Derived.Test.YtgdjlopnhecmjaaGreatDoorGzAJ
import Derived.Test.YtgdjlopnhecmjaaGreatDoorGzAI
namespace Go.Proofs.YtgdjlopnhecmjaaGreatDoor
open Go.RowKit
set_option linter.unusedVariables false
set_option maxRecDepth 4000
structure Box (w : World) (S : Nat → Prop) (b : Nat) (a : Option Addr) (cap n : Nat) (L : List (Nat × Nat)) : Prop where
  box : w.heap[b]? = some (.cells #[.int .i64 (n : Nat), .slice a L.length cap] 257 (0, 0))
  sb : S b
  row : RowAt w S a L cap
/-- Units with these free runs, in blocks of the set S. -/
def At (w : World) (S : Nat → Prop) (b n : Nat) (L : List (Nat × Nat)) : Prop := ∃ a cap, Box w S b a cap n L
theorem Box.lt {w : World} {S : Nat → Prop} {b : Nat} {a : Option Addr} {cap n : Nat} {L : List (Nat × Nat)} (h : Box w S b a cap n L) : b < w.heap.size := (Array.getElem?_eq_some_iff.1 h.box).1
theorem Box.same {w w' : World} {S : Nat → Prop} {b : Nat} {a : Option Addr} {cap n : Nat} {L : List (Nat × Nat)} (h : Box w S b a cap n L) (he : ∀ (i : Nat) (o : Obj), w.heap[i]? = some o → S i → w'.heap[i]? = some o) : Box w' S b a cap n L :=
  ⟨he b _ h.box h.sb, h.sb, h.row.same he⟩
theorem Box.mono {w : World} {S T : Nat → Prop} {b : Nat} {a : Option Addr} {cap n : Nat} {L : List (Nat × Nat)} (h : Box w S b a cap n L) (he : ∀ i, i < w.heap.size → S i → T i) : Box w T b a cap n L :=
  ⟨h.box, he b h.lt h.sb, h.row.mono he⟩
theorem Box.keep {w w' : World} {S : Nat → Prop} {b : Nat} {a : Option Addr} {cap n : Nat} {L : List (Nat × Nat)} (h : Box w S b a cap n L) (hb : Below w.heap.size w w') : Box w' S b a cap n L := h.same (old_below hb)
theorem Box.cell0 {w : World} {S : Nat → Prop} {b : Nat} {a : Option Addr} {cap n : Nat} {L : List (Nat × Nat)} (h : Box w S b a cap n L) : w.cell? ⟨b, 0, none⟩ = some (.int .i64 (n : Nat)) := cell_of_row w b 0 _ _ _ h.box
theorem Box.cell1 {w : World} {S : Nat → Prop} {b : Nat} {a : Option Addr} {cap n : Nat} {L : List (Nat × Nat)} (h : Box w S b a cap n L) : w.cell? ⟨b, 1, none⟩ = some (.slice a L.length cap) := cell_of_row w b 1 _ _ _ h.box
theorem Box.thawed {w : World} {S : Nat → Prop} {b : Nat} {a : Option Addr} {cap n : Nat} {L : List (Nat × Nat)} (h : Box w S b a cap n L) (j : Nat) : w.frozen? ⟨b, j, none⟩ = false := frozen_of_row w b j _ _ h.box
theorem At.same {w w' : World} {S : Nat → Prop} {b n : Nat} {L : List (Nat × Nat)} (h : At w S b n L) (he : ∀ (i : Nat) (o : Obj), w.heap[i]? = some o → S i → w'.heap[i]? = some o) : At w' S b n L := by
  obtain ⟨a, cap, h⟩ := h; exact ⟨a, cap, h.same he⟩
theorem At.mono {w : World} {S T : Nat → Prop} {b n : Nat} {L : List (Nat × Nat)} (h : At w S b n L) (he : ∀ i, i < w.heap.size → S i → T i) : At w T b n L := by
  obtain ⟨a, cap, h⟩ := h; exact ⟨a, cap, h.mono he⟩
theorem At.keep {w w' : World} {S : Nat → Prop} {b n : Nat} {L : List (Nat × Nat)} (h : At w S b n L) (hb : Below w.heap.size w w') : At w' S b n L := h.same (old_below hb)
theorem At.drew {w : World} {S : Nat → Prop} {b n : Nat} {L : List (Nat × Nat)} (h : At w S b n L) : At w.drew S b n L := h.same (fun _ _ ho _ => ho)
theorem take_of {xs L : List (Nat × Nat)} {i : Nat} (hx : xs.take L.length = L) (h : i ≤ L.length) : L.take i = xs.take i := by
  have := congrArg (List.take i) hx
  rw [List.take_take, Nat.min_eq_left h] at this
  exact this.symm
/-- The units' cells are no row. -/
theorem Row.other {w w' : World} {g b : Nat} {xs : List (Nat × Nat)} {cs : Array Value} (h : Row w g xs) (hb : w.heap[b]? = some (.cells cs 257 (0, 0))) (ho : Only b w w') : Row w' g xs := ho.row h (by
  rintro rfl
  have h' : w.heap[g]? = _ := h
  rw [hb] at h'
  simp at h')
theorem splice {xs L F : List (Nat × Nat)} {i j k : Nat} (hx : xs.take L.length = L) (h1 : i ≤ j) (h2 : j ≤ L.length) (hc : L.length - (j - i) + F.length ≤ xs.length) (hk : k = L.length - j) :
    ((xs.take (i + F.length) ++ (L.drop j).take k ++ xs.drop (i + F.length + k)).take i ++ F.take F.length ++ (xs.take (i + F.length) ++ (L.drop j).take k ++ xs.drop (i + F.length + k)).drop (i + F.length)).take (L.take i ++ F ++ L.drop j).length = L.take i ++ F ++ L.drop j := by
  have hl : L.length ≤ xs.length := by have := congrArg List.length hx; simp at this; omega
  have e1 : (L.drop j).take k = L.drop j := List.take_of_length_le (by simp; omega)
  have e2 : (xs.take (i + F.length) ++ L.drop j ++ xs.drop (i + F.length + k)).take i = L.take i := by
    rw [List.append_assoc, List.take_append_of_le_length (by simp; omega), List.take_take, Nat.min_eq_left (by omega), ← take_of hx (by omega)]
  have e3 : (xs.take (i + F.length) ++ L.drop j ++ xs.drop (i + F.length + k)).drop (i + F.length) = L.drop j ++ xs.drop (i + F.length + k) := by
    rw [List.append_assoc, List.drop_left' (by simp; omega)]
  rw [e1, e2, e3, List.take_length, ← List.append_assoc, List.take_left' rfl]
theorem spliceLen (xs L F : List (Nat × Nat)) (i j k : Nat) (hl : i + F.length + k ≤ xs.length) (hk : k = L.length - j) :
    ((xs.take (i + F.length) ++ (L.drop j).take k ++ xs.drop (i + F.length + k)).take i ++ F.take F.length ++ (xs.take (i + F.length) ++ (L.drop j).take k ++ xs.drop (i + F.length + k)).drop (i + F.length)).length = xs.length := by
  simp; omega
set_option maxHeartbeats 4000000 in
theorem replace_any (S : Nat → Prop) (b n g i j : Nat) (L os : List (Nat × Nat)) (w : World) (h : At w (fun k => S k ∧ k ≠ g) b n L) (hS : ∀ k, w.heap.size ≤ k → S k) (hg : Row w g os) (hsg : S g)
    (h1 : i ≤ j) (h2 : j ≤ L.length) (hl : L.length ≤ 100000) (ho : os.length ≤ 2) :
    Calls Tryz.prog 187 #[.pointer (some ⟨b, 0, none⟩), .int .i64 (i : Nat), .int .i64 (j : Nat), .slice (some ⟨g, 0, none⟩) os.length os.length] w fun e w' =>
      e = .returned (.tuple #[]) ∧ At w' S b n (L.take i ++ os.filter notE ++ L.drop j) ∧ Tu S w w' := by
  obtain ⟨a, cap, hB⟩ := h
  obtain ⟨F, hF⟩ : ∃ F, os.filter notE = F := ⟨_, rfl⟩
  have EF : Hid (os.filter notE = F) := hF
  have hFl : F.length ≤ os.length := by rw [← hF]; exact List.length_filter_le _ _
  have HB : Hid (Box w (fun k => S k ∧ k ≠ g) b a cap n L) := hB
  have HG : Hid (Row w g os) := hg
  have hbl := hB.lt
  rw [hF]
  clear hB hF hg
  go_enter Tryz.func187, Tryz.ntmps187
  go_wp2_with fail
  refine (delete_any g os _ HG.out (by omega)).mono ?_
  rw [EF.out]
  rintro e w1 ⟨ys, rfl, r1, l1, t1, u1⟩
  have B1 : Hid (Box w1 (fun k => S k ∧ k ≠ g) b a cap n L) := HB.out.same (old_tu u1 (fun k _ hk e => hk.2 e))
  have R1 : Hid (Row w1 g ys ∧ ys.take F.length = F) := ⟨r1, t1⟩
  have A1 : Hid (∀ a2, a2 = (if cap = j then a else a.map (·.add (j * 2))) → L.drop j = [] ∨ ∃ g0 xs0, a2 = some ⟨g0, j * 2, none⟩ ∧ Row w1 g0 xs0 ∧ (xs0.drop j).take (L.drop j).length = L.drop j) := by
    intro a2 ha2
    obtain ⟨_, ⟨rfl, rfl, rfl⟩ | ⟨g0, xs0, rfl, _, hr, e1, e2⟩⟩ := B1.out.row
    · exact .inl (by simp)
    · by_cases e : cap = j
      · exact .inl (List.drop_eq_nil_of_le (by have := congrArg List.length e2; simp at this; omega))
      · rw [if_neg e] at ha2
        refine .inr ⟨g0, xs0, by rw [ha2]; simp [addr_add], hr, ?_⟩
        rw [List.length_drop, ← List.drop_take, e2]
  have U1 : Hid (Tu S w w1) := u1.mono (fun k _ e => by rw [e]; exact hsg)
  have hz1 := u1.size
  have c1 := B1.out.cell1
  have hlc := B1.out.row.len
  have hcm := B1.out.row.1
  clear r1 l1 t1 u1
  have hgl := HG.out.lt
  go_wp2_with (refine wpList_sliceR rfl _ _ rfl a L.length cap j _ rfl rfl rfl (by omega) ?_; intro a2 ha2; have HA2 : Hid (a2 = (if cap = j then a else a.map (·.add (j * 2)))) := ha2; clear ha2)
  refine (grow_any (fun k => S k ∧ k ≠ g) a L cap F.length _ B1.out.row (fun k hk => ⟨hS k (by omega), by omega⟩) (by omega) (by omega)).mono ?_
  rintro e w2 ⟨a3, cap3, rfl, r2, hc2, b2⟩
  have B2 : Hid (Box w2 (fun k => S k ∧ k ≠ g) b a cap n L) := B1.out.keep b2
  have U2 : Hid (Tu S w w2) := U1.out.trans (Tu.ofBelow b2)
  have c2 := B2.out.cell1
  have z2 := B2.out.thawed 1
  have BX : Hid (∀ v, (w2.setCell ⟨b, 1, none⟩ v).heap[b]? = some (.cells #[.int .i64 (n : Nat), v] 257 (0, 0))) := fun v => by
    rw [heap_setCell_same w2 b 1 _ _ v B2.out.box]; rfl
  have U3 : Hid (∀ v, Tu S w (w2.setCell ⟨b, 1, none⟩ v)) := fun v => U2.out.only (Only.set b 1 v w2) B2.out.sb.1
  have hcm3 := r2.1
  obtain ⟨_, ⟨rfl, rfl, rfl⟩ | ⟨g3, xs3, rfl, hs3, r3, l3, t3⟩⟩ := r2
  · obtain rfl : F = [] := by simpa using hc2
    obtain rfl : j = 0 := by simpa using h2
    obtain rfl : i = 0 := by simpa using h1
    clear hcm3 hc2 b2 c1
    go_wp2_with (refine cwpList_copy0 rfl _ _ rfl _ _ _ _ _ _ rfl rfl (by simp) ?_)
    go_end0
    exact ⟨rfl, ⟨none, 0, BX.out _, B2.out.sb.1, RowAt.nil _ _⟩, U3.out _⟩
  · have R3 : Hid (∀ v, Row (w2.setCell ⟨b, 1, none⟩ v) g3 xs3) := fun v => r3.other B2.out.box (Only.set b 1 v w2)
    have G3 : Hid (∀ v, Row (w2.setCell ⟨b, 1, none⟩ v) g ys) := fun v => (R1.out.1.keep b2).other B2.out.box (Only.set b 1 v w2)
    have A3 : Hid (∀ v, UIsL (w2.setCell ⟨b, 1, none⟩ v) a2 (L.drop j)) := fun v => by
      rcases A1.out a2 HA2.out with e | ⟨g0, xs0, e, hr, hd⟩
      · exact .inl e
      · rw [e]; exact ((hr.keep b2).other B2.out.box (Only.set b 1 v w2)).isL j hd
    have H3 : Hid (xs3.length = cap3 ∧ xs3.take L.length = L ∧ S g3 ∧ g3 ≠ g) := ⟨l3, t3, hs3⟩
    obtain ⟨sz, hsz⟩ : ∃ sz, L.length - (j - i) + F.length = sz := ⟨_, rfl⟩
    have ES : Hid (L.length - (j - i) + F.length = sz) := hsz
    clear r3 l3 t3 hs3 b2 c1 hsz
    go_wp2_with (first
      | (refine wpList_copyR rfl _ _ rfl g3 i _ _ (xs3.take (i + F.length) ++ (L.drop j).take (L.length - j) ++ xs3.drop (i + F.length + (L.length - j))) F a6 (some ⟨g, 0, none⟩) _ _ F.length rfl rfl rfl (by omega) R4.out GL4.out (by simp; have := H3.out.1; omega) D6.out ?_; intro w5 r5 o5; have R5 : Hid (Row w5 g3 _) := r5; have U5 : Hid (Tu S w w5) := U4.out.only o5 H3.out.2.2.1; have X5 : Hid (w5.heap[b]? = some (.cells #[.int .i64 (n : Nat), .slice (some ⟨g3, 0, none⟩) (L.length - (j - i) + F.length) cap3] 257 (0, 0))) := (by show _ = _; rw [o5.block b NB.out]; exact X4.out); clear r5 o5)
      | (have _ := R4; refine wpList_sliceR rfl _ _ rfl (some ⟨g3, 0, none⟩) (L.length - (j - i) + F.length) cap3 i _ rfl rfl rfl (by omega) ?_; intro a6 ha6; have D6 : Hid (F.length = 0 ∨ a6 = some ⟨g3, i * 2, none⟩) := (by (by_cases e : cap3 = i); (exact .inl (by omega)); (rw [if_neg e] at ha6; exact .inr (by rw [ha6]; simp [addr_add]))); clear ha6)
      | (refine wpList_copyR rfl _ _ rfl g3 (i + F.length) _ _ xs3 (L.drop j) a4 a2 _ _ (L.length - j) rfl rfl (by simp) (by omega) (R3.out _) (A3.out _) (by have := H3.out.1; omega) D4.out ?_; intro w4 r4 o4; have R4 : Hid (Row w4 g3 (xs3.take (i + F.length) ++ (L.drop j).take (L.length - j) ++ xs3.drop (i + F.length + (L.length - j)))) := r4; have U4 : Hid (Tu S w w4) := (U3.out _).only o4 H3.out.2.2.1; have NB : Hid (b ≠ g3) := (by rintro rfl; have q : (World.setCell _ _ _).heap[b]? = _ := R3.out undef; rw [BX.out] at q; simp at q); have X4 : Hid (w4.heap[b]? = some (.cells #[.int .i64 (n : Nat), .slice (some ⟨g3, 0, none⟩) (L.length - (j - i) + F.length) cap3] 257 (0, 0))) := (by show _ = _; rw [o4.block b NB.out]; exact BX.out _); have c4 : w4.cell? ⟨b, 1, none⟩ = some (.slice (some ⟨g3, 0, none⟩) (L.length - (j - i) + F.length) cap3) := cell_of_row w4 b 1 _ _ _ X4.out; have GL4 : Hid (UIsL w4 (some ⟨g, 0, none⟩) F) := (by have q := ((o4.row (G3.out _) (Ne.symm H3.out.2.2.2)).isL (l := F) 0 (by simpa using R1.out.2)); rw [Nat.zero_mul] at q; exact q); clear r4 o4)
      | (have _ := R3; refine wpList_sliceR rfl _ _ rfl (some ⟨g3, 0, none⟩) (L.length - (j - i) + F.length) cap3 (i + F.length) _ rfl rfl (by omega) (by omega) ?_; intro a4 ha4; have D4 : Hid (L.length - j = 0 ∨ a4 = some ⟨g3, (i + F.length) * 2, none⟩) := (by (by_cases e : cap3 = i + F.length); (exact .inl (by omega)); (rw [if_neg e] at ha4; exact .inr (by rw [ha4]; simp [addr_add]))); clear ha4))
    have FIN : Hid (At w5 S b n (L.take i ++ F ++ L.drop j)) := by
      refine ⟨some ⟨g3, 0, none⟩, cap3, ?_, B2.out.sb.1, hcm3, .inr ⟨g3, _, rfl, H3.out.2.2.1, R5.out, ?_, ?_⟩⟩
      · rw [X5.out]
        have e : (L.take i ++ F ++ L.drop j).length = L.length - (j - i) + F.length := by simp; omega
        rw [e]
      · have := H3.out.1
        have e := spliceLen xs3 L F i j (L.length - j) (by omega) rfl
        exact e.trans this
      · exact splice H3.out.2.1 h1 h2 (by have := H3.out.1; omega) rfl
    go_end0
    refine ⟨rfl, ?_, U5.out⟩
    have q := FIN.out
    rw [List.append_assoc] at q
    exact q
end Go.Proofs.YtgdjlopnhecmjaaGreatDoor

/- Layer 15: RuF again -/
namespace Go.Proofs.YtgdjlopnhecmjaaGreatDoor
open Go.RowKit
set_option linter.unusedVariables false
set_option maxRecDepth 4000
set_option maxHeartbeats 1000000 in
theorem find1_any (q1 q2 b g i p x y len cap : Nat) (w : World) (h1 : w.cell? ⟨q1, 0, none⟩ = some (.pointer (some ⟨b, 0, none⟩))) (h2 : w.cell? ⟨q2, 0, none⟩ = some (.int .i64 (p : Nat)))
    (h3 : w.cell? ⟨b, 1, none⟩ = some (.slice (some ⟨g, 0, none⟩) len cap)) (h4 : w.cell? ⟨g, i * 2, none⟩ = some (.int .i64 (x : Nat))) (h5 : w.cell? ⟨g, i * 2 + 1, none⟩ = some (.int .i64 (y : Nat)))
    (hi : i < len) (hl : len ≤ 100000) (hxy : x + y ≤ 1000000) (hp : p ≤ 1000000) :
    Calls Tryz.prog 258 #[.int .i64 (i : Nat), .pointer (some ⟨q1, 0, none⟩), .pointer (some ⟨q2, 0, none⟩)] w fun e w' => e = .returned (.bool (decide (p < x + y))) ∧ Below w.heap.size w w' := by
  have hi' : (i : Int) < (len : Int) := by omega
  have hi0 : (0 : Int) ≤ (i : Int) := by omega
  have B : Hid (Below w.heap.size w (w.drew.alloc (.cells #[.int .i64 (x : Nat), .int .i64 (y : Nat)] 260))) := (Below.refl _ w).drew.alloc (Nat.le_refl _) _
  obtain ⟨s, hs⟩ : ∃ s, x + y = s := ⟨_, rfl⟩
  have ES : Hid (x + y = s) := hs
  rw [hs]
  clear hs
  go_enter Tryz.func258, Tryz.ntmps258
  go_wp2_with fail
  go_region_held3 (fun w' => w'.cell? ⟨q1, 0, none⟩ = some (.pointer (some ⟨b, 0, none⟩)) ∧ w'.cell? ⟨q2, 0, none⟩ = some (.int .i64 (p : Nat)) ∧ w'.cell? ⟨b, 1, none⟩ = some (.slice (some ⟨g, 0, none⟩) len cap) ∧ w'.cell? ⟨g, i * 2, none⟩ = some (.int .i64 (x : Nat)) ∧ w'.cell? ⟨g, i * 2 + 1, none⟩ = some (.int .i64 (y : Nat))) (go_keep)
    ((go_at_call 230; refine (end_any x y _ hxy).mono ?_; rw [ES.out]; rintro e w' ⟨rfl, rfl⟩))
  go_wp2
  go_ret
  exact ⟨rfl, B.out⟩
set_option maxHeartbeats 1000000 in
theorem search_any (n q1 q2 : Nat) (pr : Nat → Bool) (w : World) (hn : n ≤ 100000) (hm : ∀ i j, i ≤ j → j < n → pr i = true → pr j = true)
    (hK : ∀ (w' : World) (k : Nat), Below w.heap.size w w' → k < n → Calls Tryz.prog 258 #[.int .i64 (k : Nat), .pointer (some ⟨q1, 0, none⟩), .pointer (some ⟨q2, 0, none⟩)] w' (fun e w'' => e = .returned (.bool (pr k)) ∧ Below w'.heap.size w' w'')) :
    Calls Tryz.prog 207 #[.int .i64 (n : Nat), .func (.func 258) #[] #[.pointer (some ⟨q1, 0, none⟩), .pointer (some ⟨q2, 0, none⟩)]] w fun e w' =>
      ∃ i : Nat, i ≤ n ∧ e = .returned (.int .i64 (i : Nat)) ∧ (∀ k, k < i → pr k = false) ∧ (∀ k, i ≤ k → k < n → pr k = true) ∧ Below w.heap.size w w' := by
  have HM : Hid (∀ i j, i ≤ j → j < n → pr i = true → pr j = true) := hm
  have HK : Hid (∀ (w' : World) (k : Nat), Below w.heap.size w w' → k < n → Calls Tryz.prog 258 #[.int .i64 (k : Nat), .pointer (some ⟨q1, 0, none⟩), .pointer (some ⟨q2, 0, none⟩)] w' (fun e w'' => e = .returned (.bool (pr k)) ∧ Below w'.heap.size w' w'')) := hK
  have B0 : Hid (Below w.heap.size w w) := Below.refl _ _
  clear hm hK
  go_enter Tryz.func207, Tryz.ntmps207
  go_wp2
  go_loopw [5, 6] (fun iv jv wr => ∃ i j : Nat, i ≤ j ∧ j ≤ n ∧ iv = .int .i64 (i : Nat) ∧ jv = .int .i64 (j : Nat) ∧ (∀ k, k < i → pr k = false) ∧ (∀ k, j ≤ k → k < n → pr k = true) ∧ Below w.heap.size w wr) (fun iv jv _ => (intOf jv).toNat - (intOf iv).toNat)
  case atStart => exact ⟨0, n, Nat.zero_le _, Nat.le_refl _, rfl, rfl, fun k hk => by omega, fun k h1 h2 => by omega, B0.out⟩
  case round =>
    obtain ⟨i, j, hij, hjn, rfl, rfl, hA, hB, hb⟩ := hrel
    rename World => wr
    have HA : Hid (∀ k, k < i → pr k = false) := hA
    have HB : Hid (∀ k, j ≤ k → k < n → pr k = true) := hB
    have BB : Hid (Below w.heap.size w wr) := hb
    clear hA hB hb
    by_cases hlt : i < j
    · have hlt' : (i : Int) < (j : Int) := by omega
      obtain ⟨m, hmm⟩ : ∃ m, (i + j) / 2 = m := ⟨_, rfl⟩
      have hm1 : i ≤ m := by omega
      have hm2 : m < j := by omega
      cases hp : pr m
      · have EP : Hid (pr m = false) := hp
        clear hp
        go_wp2_with fail
        rw [show ((i : Int) + (j : Int)) / 2 = ((m : Nat) : Int) from by omega]
        refine (HK.out _ m BB.out (by omega)).mono ?_
        rw [EP.out]
        rintro e w1 ⟨rfl, b1⟩
        have B1 : Hid (Below w.heap.size w w1) := BB.out.trans (b1.mono BB.out.size)
        have NA : Hid (∀ k, k < m + 1 → pr k = false) := fun k hk => by
          cases e : pr k
          · rfl
          · have := HM.out k m (by omega) (by omega) e
            rw [EP.out] at this; cases this
        clear b1 hmm
        go_wp2
        go_roundw
        case rel => exact ⟨m + 1, j, by omega, hjn, by go_num, rfl, NA.out, HB.out, B1.out⟩
        case measure => simp [intOf]; omega
      · have EP : Hid (pr m = true) := hp
        clear hp
        go_wp2_with fail
        rw [show ((i : Int) + (j : Int)) / 2 = ((m : Nat) : Int) from by omega]
        refine (HK.out _ m BB.out (by omega)).mono ?_
        rw [EP.out]
        rintro e w1 ⟨rfl, b1⟩
        have B1 : Hid (Below w.heap.size w w1) := BB.out.trans (b1.mono BB.out.size)
        have NB : Hid (∀ k, m ≤ k → k < n → pr k = true) := fun k h1 h2 => HM.out m k h1 h2 EP.out
        clear b1 hmm
        go_wp2
        go_roundw
        case rel => exact ⟨i, m, by omega, by omega, rfl, rfl, HA.out, NB.out, B1.out⟩
        case measure => simp [intOf]; omega
    · obtain rfl : i = j := by omega
      go_wp2
      go_ret
      exact ⟨i, hjn, rfl, HA.out, HB.out, BB.out⟩
theorem FL.ends {n : Nat} {f : Nat → Bool} {L : List (Nat × Nat)} (h : FL n f L) {i j : Nat} (hij : i ≤ j) (hj : j < L.length) : (L[i]'(by omega)).1 + (L[i]'(by omega)).2 ≤ L[j].1 + L[j].2 := by
  rcases Nat.lt_or_eq_of_le hij with h1 | rfl
  · have := List.pairwise_iff_getElem.1 h.ris i j (by omega) hj h1
    omega
  · exact Nat.le_refl _
set_option maxHeartbeats 1000000 in
theorem find_any (S : Nat → Prop) (b n p : Nat) (f : Nat → Bool) (L : List (Nat × Nat)) (w : World) (h : At w S b n L) (hF : FL n f L) (hn : n ≤ 65536) (hp : p ≤ 65536) :
    Calls Tryz.prog 229 #[.pointer (some ⟨b, 0, none⟩), .int .i64 (p : Nat)] w fun e w' => ∃ i : Nat, FindOK L p i ∧ e = .returned (.int .i64 (i : Nat)) ∧ Below w.heap.size w w' := by
  have hll : L.length ≤ n := by rw [hF.eq]; exact freeL_len f n
  obtain ⟨a, cap, hB⟩ := h
  obtain ⟨wb, hwb⟩ : ∃ wb, (w.alloc (.cells #[.pointer (some ⟨b, 0, none⟩)] 185)).alloc (.cells #[.int .i64 (p : Nat)] 3) = wb := ⟨_, rfl⟩
  have hbb : Below w.heap.size w wb := by rw [← hwb]; exact ((Below.refl _ w).alloc (Nat.le_refl _) _).alloc (by simp) _
  have BB : Hid (Below w.heap.size w wb) := hbb
  have hq1 : wb.cell? ⟨w.heap.size, 0, none⟩ = some (.pointer (some ⟨b, 0, none⟩)) := by
    rw [← hwb]; exact Lib.cell?_alloc_some _ (by simp)
  have hq2 : wb.cell? ⟨w.heap.size + 1, 0, none⟩ = some (.int .i64 (p : Nat)) := by
    rw [← hwb]
    have := Go.heap_alloc_new (w.alloc (.cells #[.pointer (some ⟨b, 0, none⟩)] 185)) (.cells #[.int .i64 (p : Nat)] 3)
    rw [World.size_alloc] at this
    exact cell_of_row _ _ 0 _ _ _ this
  have hsz : wb.heap.size = w.heap.size + 2 := by rw [← hwb]; simp
  obtain ⟨pr, hpr⟩ : ∃ pr : Nat → Bool, ∀ k (hk : k < L.length), pr k = decide (p < L[k].1 + L[k].2) := ⟨fun k => decide (p < (L.getD k (0, 0)).1 + (L.getD k (0, 0)).2), fun k hk => by simp [List.getD, hk]⟩
  have HK : Hid (∀ (w' : World) (k : Nat), Below wb.heap.size wb w' → k < L.length → Calls Tryz.prog 258 #[.int .i64 (k : Nat), .pointer (some ⟨w.heap.size, 0, none⟩), .pointer (some ⟨w.heap.size + 1, 0, none⟩)] w' (fun e w'' => e = .returned (.bool (pr k)) ∧ Below w'.heap.size w' w'')) := by
    intro w' k hb hk
    have hB' := (hB.keep hbb).keep hb
    obtain ⟨_, ⟨_, e, _⟩ | ⟨g, xs, e, _, hr, hl, ht⟩⟩ := hB'.row
    · rw [e] at hk; simp at hk
    · have hkx : k < xs.length := by have := congrArg List.length ht; simp at this; omega
      have ex : xs[k] = L[k] := by
        have : L[k]? = xs[k]? := by rw [← ht, List.getElem?_take, if_pos hk]
        rw [List.getElem?_eq_getElem hk, List.getElem?_eq_getElem hkx] at this
        exact (Option.some.inj this).symm
      have c0 := hr.cell0 k hkx
      have c1 := hr.cell1 k hkx
      rw [ex] at c0 c1
      have hpk := (hF.pos L[k] (List.getElem_mem hk)).2
      have h3 := hB'.cell1
      rw [e] at h3
      rw [hpr k hk]
      exact find1_any w.heap.size (w.heap.size + 1) b g k p L[k].1 L[k].2 L.length cap w' ((hb.cell (p := ⟨w.heap.size, 0, none⟩) (by show w.heap.size < wb.heap.size; omega)).trans hq1) ((hb.cell (p := ⟨w.heap.size + 1, 0, none⟩) (by show w.heap.size + 1 < wb.heap.size; omega)).trans hq2) h3 c0 c1 hk (by omega) (by omega) (by omega)
  have HM : Hid (∀ i j, i ≤ j → j < L.length → pr i = true → pr j = true) := by
    intro i j hij hj h1
    rw [hpr i (by omega)] at h1
    rw [hpr j hj]
    have := hF.ends hij hj
    have h1 := of_decide_eq_true h1
    exact decide_eq_true (by omega)
  have FO : Hid (∀ i, i ≤ L.length → (∀ k, k < i → pr k = false) → (∀ k, i ≤ k → k < L.length → pr k = true) → FindOK L p i) := by
    intro i hi h1 h2
    refine ⟨hi, fun r hr => ?_, fun r hr => ?_⟩
    · obtain ⟨k, hk, rfl⟩ := List.getElem_of_mem hr
      simp at hk
      have := h1 k (by omega)
      rw [hpr k (by omega)] at this
      have := of_decide_eq_false this
      rw [List.getElem_take]; omega
    · obtain ⟨k, hk, rfl⟩ := List.getElem_of_mem hr
      simp at hk
      have := h2 (i + k) (by omega) (by omega)
      rw [hpr (i + k) (by omega)] at this
      have := of_decide_eq_true this
      rw [List.getElem_drop]; omega
  have c1 : wb.cell? ⟨b, 1, none⟩ = some (.slice a L.length cap) := (hB.keep hbb).cell1
  have c1' : w.cell? ⟨b, 1, none⟩ = some (.slice a L.length cap) := hB.cell1
  clear hpr hB hF hbb hq2 hsz
  go_enter Tryz.func229, Tryz.ntmps229
  go_wp2_with fail
  refine (search_any L.length w.heap.size (w.heap.size + 1) pr wb (by omega) HM.out HK.out).mono ?_
  rintro e w1 ⟨i, hi, rfl, h1, h2, b1⟩
  have FI : Hid (FindOK L p i) := FO.out i hi h1 h2
  have B1 : Hid (Below w.heap.size w w1) := BB.out.trans (b1.mono BB.out.size)
  clear h1 h2 b1
  go_wp2
  go_ret
  exact ⟨i, FI.out, rfl, B1.out⟩
end Go.Proofs.YtgdjlopnhecmjaaGreatDoor

/- Layer 15: RuG again -/
namespace Go.Proofs.YtgdjlopnhecmjaaGreatDoor
open Go.RowKit
set_option linter.unusedVariables false
set_option maxRecDepth 4000
/-- Units of which these are taken, in blocks of the set S. -/
def IsR (w : World) (S : Nat → Prop) (b n : Nat) (f : Nat → Bool) : Prop := At w S b n (freeL f n)
/-- Not all of these units are there. -/
def badE (n : Nat) (x k : Int) : Prop := k < 1 ∨ x < 0 ∨ (n : Int) < x + k
theorem check_bad (S : Nat → Prop) (b n : Nat) (f : Nat → Bool) (x k : Int) (w : World) (h : IsR w S b n f) (hn : n ≤ 65536) (hx : -9223372036854775808 ≤ x ∧ x ≤ 9223372036854775807) (hk : -9223372036854775808 ≤ k ∧ k ≤ 9223372036854775807) (hbad : badE n x k) :
    Calls Tryz.prog 228 #[.pointer (some ⟨b, 0, none⟩), .int .i64 x, .int .i64 k] w fun e w' => e = .returned (.int .i64 2) ∧ w = w' := by
  obtain ⟨a, cap, hB⟩ := h
  have c0 := hB.cell0
  clear hB
  by_cases h1 : k < 1
  · clear hbad
    go_enter Tryz.func228, Tryz.ntmps228
    go_wp2
    go_ret
    exact ⟨rfl, rfl⟩
  · by_cases h2 : x < 0
    · clear hbad
      go_enter Tryz.func228, Tryz.ntmps228
      go_wp2
      go_ret
      exact ⟨rfl, rfl⟩
    · have h3 : (n : Int) - k < x := by rcases hbad with h | h | h <;> omega
      clear hbad
      go_enter Tryz.func228, Tryz.ntmps228
      go_wp2
      go_ret
      exact ⟨rfl, rfl⟩
theorem ccheck_ok (S : Nat → Prop) (b n : Nat) (f : Nat → Bool) (x k : Nat) (w : World) (h : IsR w S b n f) (hn : n ≤ 65536) (hk : 1 ≤ k) (hxk : x + k ≤ n) :
    Calls Tryz.prog 228 #[.pointer (some ⟨b, 0, none⟩), .int .i64 (x : Nat), .int .i64 (k : Nat)] w fun e w' => e = .returned (.int .i64 0) ∧ w = w' := by
  obtain ⟨a, cap, hB⟩ := h
  have c0 := hB.cell0
  have h1 : ¬ ((k : Int) < 1) := by omega
  have h2 : ¬ ((x : Int) < 0) := by omega
  have h3 : ¬ ((n : Int) - (k : Int) < (x : Int)) := by omega
  clear hB
  go_enter Tryz.func228, Tryz.ntmps228
  go_wp2
  go_ret
  exact ⟨rfl, rfl⟩
/-- The i-th free run in memory. -/
theorem Box.run {w : World} {S : Nat → Prop} {b : Nat} {a : Option Addr} {cap n : Nat} {L : List (Nat × Nat)} (h : Box w S b a cap n L) {i : Nat} (hi : i < L.length) :
    ∃ g, a = some ⟨g, 0, none⟩ ∧ S g ∧ g < w.heap.size ∧ w.cell? ⟨g, i * 2, none⟩ = some (.int .i64 (L[i].1 : Nat)) ∧ w.cell? ⟨g, i * 2 + 1, none⟩ = some (.int .i64 (L[i].2 : Nat)) := by
  obtain ⟨_, ⟨_, e, _⟩ | ⟨g, xs, e, hs, hr, hl, ht⟩⟩ := h.row
  · rw [e] at hi; simp at hi
  · have hkx : i < xs.length := by have := congrArg List.length ht; simp at this; omega
    have ex : xs[i] = L[i] := by
      have : L[i]? = xs[i]? := by rw [← ht, List.getElem?_take, if_pos hi]
      rw [List.getElem?_eq_getElem hi, List.getElem?_eq_getElem hkx] at this
      exact (Option.some.inj this).symm
    have c0 := hr.cell0 i hkx
    have c1 := hr.cell1 i hkx
    rw [ex] at c0 c1
    exact ⟨g, e, hs, hr.lt, c0, c1⟩
end Go.Proofs.YtgdjlopnhecmjaaGreatDoor

/- Layer 15: RuH again -/
namespace Go.Proofs.YtgdjlopnhecmjaaGreatDoor
open Go.RowKit
set_option linter.unusedVariables false
set_option maxRecDepth 4000
theorem IsR.keep {w w' : World} {S : Nat → Prop} {b n : Nat} {f : Nat → Bool} (h : IsR w S b n f) (hb : Below w.heap.size w w') : IsR w' S b n f := At.keep h hb
theorem IsR.same {w w' : World} {S : Nat → Prop} {b n : Nat} {f : Nat → Bool} (h : IsR w S b n f) (he : ∀ (i : Nat) (o : Obj), w.heap[i]? = some o → S i → w'.heap[i]? = some o) : IsR w' S b n f := At.same h he
theorem IsR.mono {w : World} {S T : Nat → Prop} {b n : Nat} {f : Nat → Bool} (h : IsR w S b n f) (he : ∀ i, i < w.heap.size → S i → T i) : IsR w T b n f := At.mono h he
theorem IsR.drew {w : World} {S : Nat → Prop} {b n : Nat} {f : Nat → Bool} (h : IsR w S b n f) : IsR w.drew S b n f := At.drew h
end Go.Proofs.YtgdjlopnhecmjaaGreatDoor

/- Layer 15: CaT again -/
namespace Go.Proofs.YtgdjlopnhecmjaaGreatDoor
set_option linter.unusedVariables false
set_option maxRecDepth 4000
theorem plS_none (s : Sg) (q : Nat → Bool) (h : ∀ x, q x = false) (i : Nat) (l : List Nat) : plS s q i l = [] := by
  have := plS_len s q l i
  rw [List.countP_eq_zero.2 (fun x _ => by simp [h x])] at this
  exact List.eq_nil_of_length_eq_zero this
end Go.Proofs.YtgdjlopnhecmjaaGreatDoor
