/- A disk in memory; its small calls. -/
import Derived.Test.YtofmicbhheebiaaDoorDkA
import Derived.Deep.RegionHeld3
import Derived.BigQuiet
namespace Go.Proofs.YtofmicbhheebiaaDoor
open Go.RowKit Go.Maps
set_option linter.unusedVariables false
set_option maxRecDepth 4000

/-- The cells of a disk. -/
def boxC (bs bn : Nat) (ap : Option Addr) (cp : Nat) (d : Dk) : Array Value :=
  #[.int .i64 (d.n : Nat), .map (some bs), .slice ap d.pend.length cp, .map (some bn), .int .i64 d.left, .bool d.down, .int .i64 (d.ops : Nat)]

structure DiskAt (w : World) (base b bs bn : Nat) (ap : Option Addr) (cp ns nn : Nat) (f : Int → Option (List Int)) (g : Int → Option Nat) (d : Dk) : Prop where
  box : w.heap[b]? = some (.cells (boxC bs bn ap cp d) 66 (0, 0))
  sure : MapS w bs ns f
  newest : MapI w bn nn g
  row : RowW w base ap d.pend cp
  apart : bs ≠ bn
  ge : base ≤ b ∧ base ≤ bs ∧ base ≤ bn
  fit : ∀ i : Nat, i < d.n → (f i).getD zeros = d.sure i
  keys : ∀ i l, f i = some l → ∃ k : Nat, i = k ∧ k < d.n
  new : Newest g d.pend

/-- A disk of the code's, from a base on; m: as many entries as its maps may have. -/
def IsD (w : World) (base b m : Nat) (d : Dk) : Prop :=
  ∃ bs bn ap cp ns nn f g, DiskAt w base b bs bn ap cp ns nn f g d ∧ ns + d.pend.length ≤ m ∧ nn ≤ m ∧ DkOk d

theorem IsD.ok {w : World} {base b m : Nat} {d : Dk} (h : IsD w base b m d) : DkOk d := by obtain ⟨_, _, _, _, _, _, _, _, _, _, _, h⟩ := h; exact h
theorem IsD.mono {w : World} {base b m m' : Nat} {d : Dk} (h : IsD w base b m d) (hm : m ≤ m') : IsD w base b m' d := by
  obtain ⟨bs, bn, ap, cp, ns, nn, f, g, h, h1, h2, h3⟩ := h; exact ⟨bs, bn, ap, cp, ns, nn, f, g, h, by omega, by omega, h3⟩

theorem DiskAt.same {w w' : World} {base b bs bn cp ns nn : Nat} {ap : Option Addr} {f : Int → Option (List Int)} {g : Int → Option Nat} {d : Dk} (h : DiskAt w base b bs bn ap cp ns nn f g d)
    (he : ∀ (i : Nat) (o : Obj), w.heap[i]? = some o → KC o = true → w'.heap[i]? = some o) : DiskAt w' base b bs bn ap cp ns nn f g d :=
  ⟨he _ _ h.box rfl, h.sure.same (he bs), h.newest.same (he bn), h.row.same he, h.apart, h.ge, h.fit, h.keys, h.new⟩
theorem IsD.same {w w' : World} {base b m : Nat} {d : Dk} (h : IsD w base b m d) (he : ∀ (i : Nat) (o : Obj), w.heap[i]? = some o → KC o = true → w'.heap[i]? = some o) : IsD w' base b m d := by
  obtain ⟨bs, bn, ap, cp, ns, nn, f, g, h, r⟩ := h; exact ⟨bs, bn, ap, cp, ns, nn, f, g, h.same he, r⟩
theorem IsD.drew {w : World} {base b m : Nat} {d : Dk} (h : IsD w base b m d) : IsD w.drew base b m d := h.same (fun i o ho _ => ho)
theorem same_below {w w' : World} (h : Below w.heap.size w w') : ∀ (i : Nat) (o : Obj), w.heap[i]? = some o → KC o = true → w'.heap[i]? = some o := fun i o ho _ => by
  rw [h.block i (Array.getElem?_eq_some_iff.1 ho).1]; exact ho
theorem IsD.keep {w w' : World} {base b m : Nat} {d : Dk} (h : IsD w base b m d) (hb : Below w.heap.size w w') : IsD w' base b m d := h.same (same_below hb)
theorem DiskAt.cell {w : World} {base b bs bn cp ns nn : Nat} {ap : Option Addr} {f : Int → Option (List Int)} {g : Int → Option Nat} {d : Dk} (h : DiskAt w base b bs bn ap cp ns nn f g d) (j : Nat) : w.cell? ⟨b, j, none⟩ = (boxC bs bn ap cp d)[j]? := cell_of_row w b j _ _ _ h.box
theorem DiskAt.thawed {w : World} {base b bs bn cp ns nn : Nat} {ap : Option Addr} {f : Int → Option (List Int)} {g : Int → Option Nat} {d : Dk} (h : DiskAt w base b bs bn ap cp ns nn f g d) (j : Nat) : w.frozen? ⟨b, j, none⟩ = false := frozen_of_row w b j _ _ h.box

theorem DiskAt.apart1 {w : World} {base b bs bn cp ns nn : Nat} {ap : Option Addr} {f : Int → Option (List Int)} {g : Int → Option Nat} {d : Dk} (h : DiskAt w base b bs bn ap cp ns nn f g d) : bs ≠ b := by
  rintro rfl; obtain ⟨es, c, hb⟩ := h.sure.block; rw [h.box] at hb; cases hb
theorem DiskAt.apart2 {w : World} {base b bs bn cp ns nn : Nat} {ap : Option Addr} {f : Int → Option (List Int)} {g : Int → Option Nat} {d : Dk} (h : DiskAt w base b bs bn ap cp ns nn f g d) : bn ≠ b := by
  rintro rfl; obtain ⟨es, c, hb⟩ := h.newest.block; rw [h.box] at hb; cases hb

/-- Its own cells alone have turned. -/
theorem DiskAt.rebox {w w' : World} {base b bs bn cp ns nn : Nat} {ap : Option Addr} {f : Int → Option (List Int)} {g : Int → Option Nat} {d d' : Dk} (h : DiskAt w base b bs bn ap cp ns nn f g d)
    (hb : w'.heap[b]? = some (.cells (boxC bs bn ap cp d') 66 (0, 0))) (he : ∀ i, i ≠ b → w'.heap[i]? = w.heap[i]?) (hp : d'.pend = d.pend) (hn : d'.n = d.n) (hs : d'.sure = d.sure) : DiskAt w' base b bs bn ap cp ns nn f g d' where
  box := hb
  sure := h.sure.same (fun o ho _ => by rw [he _ h.apart1]; exact ho)
  newest := h.newest.same (fun o ho _ => by rw [he _ h.apart2]; exact ho)
  row := by
    rw [hp]
    obtain ⟨h0, h1 | ⟨q, c', cur, h1, hg, h2, h3⟩⟩ := h.row
    · exact ⟨h0, .inl h1⟩
    · have : q ≠ b := by rintro rfl; rw [h.box] at h2; simp at h2
      exact ⟨h0, .inr ⟨q, c', cur, h1, hg, by rw [he q this]; exact h2, h3⟩⟩
  apart := h.apart
  ge := h.ge
  fit := fun i hi => by rw [hs]; exact h.fit i (by omega)
  keys := fun i l hl => by rw [hn]; exact h.keys i l hl
  new := by rw [hp]; exact h.new

theorem set_else (w : World) (b j : Nat) (v : Value) : ∀ i, i ≠ b → (w.setCell ⟨b, j, none⟩ v).heap[i]? = w.heap[i]? := fun i hi => Below.heap_setCell _ _ _ _ hi

theorem dead_at (b : Nat) (x : Bool) (w : World) (h5 : w.cell? ⟨b, 5, none⟩ = some (.bool x)) :
    Calls Tryd.prog 26 #[.pointer (some ⟨b, 0, none⟩)] w fun e w' => e = .returned (.int .i64 (if x = true then 14 else 0)) ∧ w = w' := by
  cases x
  all_goals
    go_enter Tryd.func26, Tryd.ntmps26
    go_wp2
    go_ret
    exact ⟨rfl, rfl⟩

theorem dead_any (base b m : Nat) (d : Dk) (w : World) (h : IsD w base b m d) :
    Calls Tryd.prog 26 #[.pointer (some ⟨b, 0, none⟩)] w fun e w' => e = .returned (.int .i64 (deadE d)) ∧ w = w' := by
  obtain ⟨bs, bn, ap, cp, ns, nn, f, g, h, _⟩ := h
  exact dead_at b d.down w (h.cell 5)

theorem closed_any (base b m : Nat) (d : Dk) (i : Int) (w : World) (h : IsD w base b m d) :
    Calls Tryd.prog 22 #[.pointer (some ⟨b, 0, none⟩), .int .i64 i] w fun e w' => e = .returned (.int .i64 (closedE d i)) ∧ w = w' := by
  have H : Hid (IsD w base b m d) := h
  obtain ⟨bs, bn, ap, cp, ns, nn, f, g, h, _, _, hok⟩ := h
  have h0 : w.cell? ⟨b, 0, none⟩ = some (.int .i64 (d.n : Nat)) := h.cell 0
  have few := hok.few
  clear h hok
  cases hd : d.down
  · have E : Hid (deadE d = 0) := by show deadE d = 0; simp [deadE, hd]
    by_cases hi0 : i < 0
    · have R : Hid (closedE d i = 2) := by show closedE d i = 2; rw [closedE, hd]; simp; omega
      clear hd
      go_enter Tryd.func22, Tryd.ntmps22
      go_wp2_with (go_at_call 26; refine (dead_any base b m d _ H.out).mono ?_; rw [E.out]; rintro e w' ⟨rfl, rfl⟩)
      go_ret
      exact ⟨ret_int R.out.symm, rfl⟩
    · by_cases hi1 : i < d.n
      · have R : Hid (closedE d i = 0) := by show closedE d i = 0; rw [closedE, hd]; simp; omega
        clear hd
        go_enter Tryd.func22, Tryd.ntmps22
        go_wp2_with (go_at_call 26; refine (dead_any base b m d _ H.out).mono ?_; rw [E.out]; rintro e w' ⟨rfl, rfl⟩)
        go_ret
        exact ⟨ret_int R.out.symm, rfl⟩
      · have R : Hid (closedE d i = 2) := by show closedE d i = 2; rw [closedE, hd]; simp; omega
        clear hd
        go_enter Tryd.func22, Tryd.ntmps22
        go_wp2_with (go_at_call 26; refine (dead_any base b m d _ H.out).mono ?_; rw [E.out]; rintro e w' ⟨rfl, rfl⟩)
        go_ret
        exact ⟨ret_int R.out.symm, rfl⟩
  · have E : Hid (deadE d = 14) := by show deadE d = 14; simp [deadE, hd]
    have R : Hid (closedE d i = 14) := by show closedE d i = 14; simp [closedE, hd]
    clear hd
    go_enter Tryd.func22, Tryd.ntmps22
    go_wp2_with (go_at_call 26; refine (dead_any base b m d _ H.out).mono ?_; rw [E.out]; rintro e w' ⟨rfl, rfl⟩)
    go_ret
    exact ⟨ret_int R.out.symm, rfl⟩

theorem len_any (base b m : Nat) (d : Dk) (w : World) (h : IsD w base b m d) :
    Calls Tryd.prog 31 #[.pointer (some ⟨b, 0, none⟩)] w fun e w' => e = .returned (.int .i64 (d.n : Nat)) ∧ w = w' := by
  obtain ⟨bs, bn, ap, cp, ns, nn, f, g, h, _⟩ := h
  have h2 : w.cell? ⟨b, 0, none⟩ = some (.int .i64 (d.n : Nat)) := h.cell 0
  clear h
  go_enter Tryd.func31, Tryd.ntmps31
  go_wp2
  go_ret
  exact ⟨rfl, rfl⟩

/-- A field of a disk is stored. -/
theorem IsD.field {w : World} {base b m : Nat} {d d' : Dk} (h : IsD w base b m d) {w' : World} (hp : d'.pend = d.pend) (hn : d'.n = d.n) (hs : d'.sure = d.sure) (hok : DkOk d')
    (hb : ∀ bs bn ap cp, w.heap[b]? = some (.cells (boxC bs bn ap cp d) 66 (0, 0)) → w'.heap[b]? = some (.cells (boxC bs bn ap cp d') 66 (0, 0))) (he : ∀ i, i ≠ b → w'.heap[i]? = w.heap[i]?) : IsD w' base b m d' := by
  obtain ⟨bs, bn, ap, cp, ns, nn, f, g, h, h1, h2, _⟩ := h
  exact ⟨bs, bn, ap, cp, ns, nn, f, g, h.rebox (hb _ _ _ _ h.box) he hp hn hs, by rw [hp]; exact h1, h2, hok⟩
theorem IsD.ge {w : World} {base b m : Nat} {d : Dk} (h : IsD w base b m d) : base ≤ b ∧ ∃ cs, w.heap[b]? = some (.cells cs 66 (0, 0)) := by
  obtain ⟨bs, bn, ap, cp, ns, nn, f, g, h, _⟩ := h; exact ⟨h.ge.1, _, h.box⟩

theorem set_same (w : World) (b j : Nat) (v : Value) (cs cs' : Array Value) (t : TypeId) (h : w.heap[b]? = some (.cells cs t (0, 0))) (e : cs.setIfInBounds j v = cs') : (w.setCell ⟨b, j, none⟩ v).heap[b]? = some (.cells cs' t (0, 0)) := by
  rw [heap_setCell_same w b j cs t v h, e]
theorem set_turn {w : World} {base b j : Nat} {v : Value} {cs : Array Value} (h : w.heap[b]? = some (.cells cs 66 (0, 0))) (hb : base ≤ b) : Turn base KC w (w.setCell ⟨b, j, none⟩ v) := Turn.set h rfl hb

theorem arm_any (base b m : Nat) (d : Dk) (n : Int) (w : World) (h : IsD w base b m d) (hn : -9223372036854775808 ≤ n ∧ n ≤ 9223372036854775807) :
    Calls Tryd.prog 9 #[.pointer (some ⟨b, 0, none⟩), .int .i64 n] w fun e w' => e = .returned (.tuple #[]) ∧ IsD w' base b m (armD d n) ∧ Turn base KC w w' := by
  have H : Hid (IsD w base b m d) := h
  have hok := armD_ok (n := n) h.ok hn
  obtain ⟨hge, cs, hbx⟩ := h.ge
  have HT : ∀ v, Turn base KC w (w.setCell ⟨b, 4, none⟩ v) := fun v => Turn.set hbx rfl hge
  obtain ⟨bs, bn, ap, cp, ns, nn, f, g, h, _⟩ := h
  have h4 : w.cell? ⟨b, 4, none⟩ = some (.int .i64 d.left) := h.cell 4
  have hz := h.thawed 4
  clear h hbx
  cases hd : d.down
  · have E : Hid (deadE d = 0) := by show deadE d = 0; simp [deadE, hd]
    have R : Hid (IsD (w.setCell ⟨b, 4, none⟩ (.int .i64 n)) base b m (armD d n)) := by
      have e : armD d n = { d with left := n } := by simp [armD, hd]
      rw [e] at hok ⊢
      exact H.out.field rfl rfl rfl hok (fun bs bn ap cp hb => set_same _ _ _ _ _ _ _ hb (by simp [boxC])) (set_else _ _ _ _)
    have T : Hid (∀ v, Turn base KC w (w.setCell ⟨b, 4, none⟩ v)) := HT
    clear hd hok HT
    go_enter Tryd.func9, Tryd.ntmps9
    go_wp2_with (go_at_call 26; refine (dead_any base b m d _ H.out).mono ?_; rw [E.out]; rintro e w' ⟨rfl, rfl⟩)
    go_end0
    exact ⟨rfl, R.out, T.out _⟩
  · have E : Hid (deadE d = 14) := by show deadE d = 14; simp [deadE, hd]
    have R : Hid (IsD w base b m (armD d n)) := by
      have e : armD d n = d := by simp [armD, hd]
      rw [e]; exact H.out
    clear hd hok HT
    go_enter Tryd.func9, Tryd.ntmps9
    go_wp2_with (go_at_call 26; refine (dead_any base b m d _ H.out).mono ?_; rw [E.out]; rintro e w' ⟨rfl, rfl⟩)
    go_end0
    exact ⟨rfl, R.out, Turn.refl _ _ _⟩
end Go.Proofs.YtofmicbhheebiaaDoor
