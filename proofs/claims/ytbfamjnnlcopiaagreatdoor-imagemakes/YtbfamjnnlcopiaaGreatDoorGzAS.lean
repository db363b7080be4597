/- Layer 17: RoC again -/
import Derived.Test.YtbfamjnnlcopiaaGreatDoorAuB
import Derived.Test.YtbfamjnnlcopiaaGreatDoorMhA
import Derived.Test.YtbfamjnnlcopiaaGreatDoorGzAJ
import Derived.Test.YtbfamjnnlcopiaaGreatDoorGzAF
namespace Go.Proofs.YtbfamjnnlcopiaaGreatDoor
open Go.RowKit
set_option linter.unusedVariables false
set_option maxRecDepth 4000
theorem placed_ok {s f p : Int} {l : List Int} {k : Nat} (h : k < l.length) (hp : l.getD k 0 = p) (h1 : f ≤ p) (h2 : p ≤ s - 8) (h3 : p % 8 = 0) : placedB s f (l.drop k) = placedB s (p + 8) (l.drop (k + 1)) := by
  rw [placed_step s f l k h, hp, decide_eq_true ⟨h1, h2, h3⟩, Bool.true_and]
theorem placed_no {s f p : Int} {l : List Int} {k : Nat} (h : k < l.length) (hp : l.getD k 0 = p) (h1 : ¬ (f ≤ p ∧ p ≤ s - 8 ∧ p % 8 = 0)) : placedB s f (l.drop k) = false := by
  rw [placed_step s f l k h, hp, decide_eq_false h1, Bool.false_and]
/-- The three ways in which a place can be wrong. -/
theorem wrong_ways {s f p : Int} (hok : ¬ (f ≤ p ∧ p ≤ s - 8 ∧ p % 8 = 0)) : p < f ∨ (f ≤ p ∧ s - 8 < p) ∨ (f ≤ p ∧ p ≤ s - 8 ∧ (p % 8 != 0) = true) := by
  rcases Int.lt_or_le p f with h | h
  · exact .inl h
  · rcases Int.lt_or_le (s - 8) p with h' | h'
    · exact .inr (.inl ⟨h, h'⟩)
    · exact .inr (.inr ⟨h, h', by rw [bne_iff_ne]; intro h8; exact hok ⟨h, h', h8⟩⟩)

set_option maxHeartbeats 4000000 in
/-- What the code's Right answers. -/
theorem oright_any (a : Option Addr) (c : Nat) (l : List Int) (n : Int) (w : World) (hI : IsI w a l) (hm : l.length ≤ maxLen) (hn : -9223372036854775808 ≤ n ∧ n ≤ 9223372036854775807) :
    Calls Tryz.prog 74 #[.slice a l.length c, .int .i64 n] w fun e w' => e = .returned (.bool (rrightT n l)) ∧ w = w' := by
  have I1 : Hid (IsI w a l) := hI
  unfold maxLen at hm
  clear hI
  by_cases hbig : 8192 < l.length
  · rw [right_many hbig]
    go_enter Tryz.func74, Tryz.ntmps74
    go_wp2
    go_ret
    exact ⟨rfl, rfl⟩
  · have hfew : l.length ≤ 8192 := by omega
    rw [right_few hfew]
    have hcn : (n < 0 ∧ max 0 n = 0) ∨ (n = 0 ∧ max 0 n = 0) ∨ (0 < n ∧ max 0 n = n) := by omega
    clear hbig
    rcases hcn with ⟨q1, q2⟩ | ⟨q1, q2⟩ | ⟨q1, q2⟩
    · rw [q2]
      clear q2
      go_enter Tryz.func74, Tryz.ntmps74
      go_wp2
      go_loop [5, 15] (fun fv iv => ∃ (k : Nat) (f : Int), k ≤ l.length ∧ iv = .int .i64 k ∧ fv = .int .i64 f ∧ 0 ≤ f ∧ f ≤ 9223372036854775807 ∧ placedB 0 0 l = placedB 0 f (l.drop k)) (fun _ iv => l.length - (intOf iv).toNat)
      case atStart => exact ⟨0, 0, Nat.zero_le _, rfl, rfl, by omega, by omega, rfl⟩
      case round =>
        obtain ⟨k, f, hk, rfl, rfl, f0, f1, hp⟩ := hrel
        have HP : Hid (placedB 0 0 l = placedB 0 f (l.drop k)) := hp
        clear hp
        by_cases hlt : k < l.length
        · obtain ⟨hin, h0 | ⟨b, off, rfl, hsz, hc⟩⟩ := I1.out
          · rw [h0] at hlt; simp at hlt
          have hcell := hc k hlt
          have hpb := AllI.at (show AllI l from hin) k
          obtain ⟨p, hp⟩ : ∃ p, l.getD k 0 = p := ⟨_, rfl⟩
          rw [hp] at hcell hpb
          have HPP : Hid (l.getD k 0 = p) := hp
          clear hp hc hin hsz
          by_cases hok : f ≤ p ∧ p ≤ 0 - 8 ∧ p % 8 = 0
          · obtain ⟨k1, k2, k3⟩ := hok
            exfalso; omega
          · have EQ : Hid (placedB 0 0 l = false) := by show _ = _; rw [HP.out, placed_no hlt HPP.out hok]
            clear HP
            rcases wrong_ways hok with h | ⟨h, h'⟩ | ⟨h, h', h8⟩
            case inr.inr => exfalso; omega
            all_goals
              clear hok
              go_wp2
              go_ret
              exact ⟨ret_bool EQ.out.symm, rfl⟩
        · have EQ : Hid (placedB 0 0 l = true) := by show _ = _; rw [HP.out, placed_end 0 f l k (by omega)]
          clear HP
          go_wp2
          go_ret
          exact ⟨ret_bool EQ.out.symm, rfl⟩
    · rw [q2]
      clear q2
      subst q1
      go_enter Tryz.func74, Tryz.ntmps74
      go_wp2
      go_loop [5, 15] (fun fv iv => ∃ (k : Nat) (f : Int), k ≤ l.length ∧ iv = .int .i64 k ∧ fv = .int .i64 f ∧ 0 ≤ f ∧ f ≤ 9223372036854775807 ∧ placedB 0 0 l = placedB 0 f (l.drop k)) (fun _ iv => l.length - (intOf iv).toNat)
      case atStart => exact ⟨0, 0, Nat.zero_le _, rfl, rfl, by omega, by omega, rfl⟩
      case round =>
        obtain ⟨k, f, hk, rfl, rfl, f0, f1, hp⟩ := hrel
        have HP : Hid (placedB 0 0 l = placedB 0 f (l.drop k)) := hp
        clear hp
        by_cases hlt : k < l.length
        · obtain ⟨hin, h0 | ⟨b, off, rfl, hsz, hc⟩⟩ := I1.out
          · rw [h0] at hlt; simp at hlt
          have hcell := hc k hlt
          have hpb := AllI.at (show AllI l from hin) k
          obtain ⟨p, hp⟩ : ∃ p, l.getD k 0 = p := ⟨_, rfl⟩
          rw [hp] at hcell hpb
          have HPP : Hid (l.getD k 0 = p) := hp
          clear hp hc hin hsz
          by_cases hok : f ≤ p ∧ p ≤ 0 - 8 ∧ p % 8 = 0
          · obtain ⟨k1, k2, k3⟩ := hok
            exfalso; omega
          · have EQ : Hid (placedB 0 0 l = false) := by show _ = _; rw [HP.out, placed_no hlt HPP.out hok]
            clear HP
            rcases wrong_ways hok with h | ⟨h, h'⟩ | ⟨h, h', h8⟩
            case inr.inr => exfalso; omega
            all_goals
              clear hok
              go_wp2
              go_ret
              exact ⟨ret_bool EQ.out.symm, rfl⟩
        · have EQ : Hid (placedB 0 0 l = true) := by show _ = _; rw [HP.out, placed_end 0 f l k (by omega)]
          clear HP
          go_wp2
          go_ret
          exact ⟨ret_bool EQ.out.symm, rfl⟩
    · rw [q2]
      clear q2
      go_enter Tryz.func74, Tryz.ntmps74
      go_wp2
      go_loop [5, 15] (fun fv iv => ∃ (k : Nat) (f : Int), k ≤ l.length ∧ iv = .int .i64 k ∧ fv = .int .i64 f ∧ 0 ≤ f ∧ f ≤ 9223372036854775807 ∧ placedB n 0 l = placedB n f (l.drop k)) (fun _ iv => l.length - (intOf iv).toNat)
      case atStart => exact ⟨0, 0, Nat.zero_le _, rfl, rfl, by omega, by omega, rfl⟩
      case round =>
        obtain ⟨k, f, hk, rfl, rfl, f0, f1, hp⟩ := hrel
        have HP : Hid (placedB n 0 l = placedB n f (l.drop k)) := hp
        clear hp
        by_cases hlt : k < l.length
        · obtain ⟨hin, h0 | ⟨b, off, rfl, hsz, hc⟩⟩ := I1.out
          · rw [h0] at hlt; simp at hlt
          have hcell := hc k hlt
          have hpb := AllI.at (show AllI l from hin) k
          obtain ⟨p, hp⟩ : ∃ p, l.getD k 0 = p := ⟨_, rfl⟩
          rw [hp] at hcell hpb
          have HPP : Hid (l.getD k 0 = p) := hp
          clear hp hc hin hsz
          by_cases hok : f ≤ p ∧ p ≤ n - 8 ∧ p % 8 = 0
          · obtain ⟨k1, k2, k3⟩ := hok
            have EQ : Hid (placedB n 0 l = placedB n (p + 8) (l.drop (k + 1))) := by show _ = _; rw [HP.out, placed_ok hlt HPP.out k1 k2 k3]
            clear HP
            go_wp2
            go_round
            case rel => exact ⟨k + 1, p + 8, by omega, by go_num, rfl, by omega, by omega, EQ.out⟩
            case measure => simp [intOf]; omega
          · have EQ : Hid (placedB n 0 l = false) := by show _ = _; rw [HP.out, placed_no hlt HPP.out hok]
            clear HP
            rcases wrong_ways hok with h | ⟨h, h'⟩ | ⟨h, h', h8⟩
            all_goals
              clear hok
              go_wp2
              go_ret
              exact ⟨ret_bool EQ.out.symm, rfl⟩
        · have EQ : Hid (placedB n 0 l = true) := by show _ = _; rw [HP.out, placed_end n f l k (by omega)]
          clear HP
          go_wp2
          go_ret
          exact ⟨ret_bool EQ.out.symm, rfl⟩

/-- Right, told apart. -/
theorem oright_is (a : Option Addr) (c m : Nat) (l : List Int) (n : Int) (v : Bool) (w : World) (hm' : m = l.length) (hv : rrightT n l = v) (hI : IsI w a l) (hm : l.length ≤ maxLen) (hn : -9223372036854775808 ≤ n ∧ n ≤ 9223372036854775807) :
    Calls Tryz.prog 74 #[.slice a m c, .int .i64 n] w fun e w' => e = .returned (.bool v) ∧ w = w' := by
  subst hm' hv; exact oright_any a c l n w hI hm hn
end Go.Proofs.YtbfamjnnlcopiaaGreatDoor

/- Layer 17: Size and Right of the code. -/
namespace Go.Proofs.YtbfamjnnlcopiaaGreatDoor
open Go.RowKit
set_option linter.unusedVariables false
set_option maxRecDepth 4000

/-- An image's cells. -/
def icells (p c s : Int) (la : Option Addr) (ln lc : Nat) (base : Int) (oa : Option Addr) (on oc : Nat) (ba : Option Addr) (bn bc : Nat) : Array Value := #[.int .i64 p, .int .i64 c, .int .i64 s, .slice la ln lc, .int .i64 base, .slice oa on oc, .slice ba bn bc]
theorem ibox (t : TypeId) (w : World) (p c s : Int) (la : Option Addr) (ln lc : Nat) (base : Int) (oa : Option Addr) (on oc : Nat) (ba : Option Addr) (bn bc : Nat) : ∃ w1, w.alloc (.cells #[.int .i64 p, .int .i64 c, .int .i64 s, .slice la ln lc, .int .i64 base, .slice oa on oc, .slice ba bn bc] t) = w1 ∧ w1.heap.size = w.heap.size + 1 ∧ w1.heap[w.heap.size]? = some (.cells (icells p c s la ln lc base oa on oc ba bn bc) t (0, 0)) ∧ Below w.heap.size w w1 :=
  ⟨_, rfl, by simp, Go.heap_alloc_new w _, (Below.refl _ w).alloc (Nat.le_refl _) _⟩
/-- The seven cells of an image. -/
structure Ic (w : World) (g : Nat) (p c s : Int) (la : Option Addr) (ln lc : Nat) (base : Int) (oa : Option Addr) (on oc : Nat) (ba : Option Addr) (bn bc : Nat) : Prop where
  c0 : w.cell? ⟨g, 0, none⟩ = some (.int .i64 p)
  c1 : w.cell? ⟨g, 1, none⟩ = some (.int .i64 c)
  c2 : w.cell? ⟨g, 2, none⟩ = some (.int .i64 s)
  c3 : w.cell? ⟨g, 3, none⟩ = some (.slice la ln lc)
  c4 : w.cell? ⟨g, 4, none⟩ = some (.int .i64 base)
  c5 : w.cell? ⟨g, 5, none⟩ = some (.slice oa on oc)
  c6 : w.cell? ⟨g, 6, none⟩ = some (.slice ba bn bc)
theorem icell {t : TypeId} {w : World} {g : Nat} {p c s : Int} {la : Option Addr} {ln lc : Nat} {base : Int} {oa : Option Addr} {on oc : Nat} {ba : Option Addr} {bn bc : Nat} (h : w.heap[g]? = some (.cells (icells p c s la ln lc base oa on oc ba bn bc) t (0, 0))) : Ic w g p c s la ln lc base oa on oc ba bn bc :=
  ⟨cell_of_row _ _ 0 _ _ _ h, cell_of_row _ _ 1 _ _ _ h, cell_of_row _ _ 2 _ _ _ h, cell_of_row _ _ 3 _ _ _ h, cell_of_row _ _ 4 _ _ _ h, cell_of_row _ _ 5 _ _ _ h, cell_of_row _ _ 6 _ _ _ h⟩
theorem Ic.keep {w w' : World} {g : Nat} {p c s : Int} {la : Option Addr} {ln lc : Nat} {base : Int} {oa : Option Addr} {on oc : Nat} {ba : Option Addr} {bn bc : Nat} (h : Ic w g p c s la ln lc base oa on oc ba bn bc) (hb : Below w.heap.size w w') : Ic w' g p c s la ln lc base oa on oc ba bn bc :=
  ⟨bcell hb h.c0, bcell hb h.c1, bcell hb h.c2, bcell hb h.c3, bcell hb h.c4, bcell hb h.c5, bcell hb h.c6⟩
theorem Ic.drewN {w : World} {g : Nat} {p c s : Int} {la : Option Addr} {ln lc : Nat} {base : Int} {oa : Option Addr} {on oc : Nat} {ba : Option Addr} {bn bc : Nat} (h : Ic w g p c s la ln lc base oa on oc ba bn bc) (m : Nat) : Ic (w.drewN m) g p c s la ln lc base oa on oc ba bn bc := ⟨h.c0, h.c1, h.c2, h.c3, h.c4, h.c5, h.c6⟩
theorem Ic.drew {w : World} {g : Nat} {p c s : Int} {la : Option Addr} {ln lc : Nat} {base : Int} {oa : Option Addr} {on oc : Nat} {ba : Option Addr} {bn bc : Nat} (h : Ic w g p c s la ln lc base oa on oc ba bn bc) : Ic w.drew g p c s la ln lc base oa on oc ba bn bc := ⟨h.c0, h.c1, h.c2, h.c3, h.c4, h.c5, h.c6⟩
def i64' (x : Int) : Prop := -9223372036854775808 ≤ x ∧ x ≤ 9223372036854775807

/-- Of a span that may not be, or whose slots may not. -/
theorem iof_no (p c s : Int) (a : Option Addr) (n k : Nat) (l : List Int) (w : World) (hn : n = l.length) (hT : Tabs w) (hI : IsI w a l) (hm : l.length ≤ maxLen) (hp : i64' p) (h : spOk p c s l = false) :
    Calls Tryz.prog 61 #[.agg #[.int .i64 p, .int .i64 c, .int .i64 s, .slice a n k]] w fun e w' => ∃ x, x ≠ 0 ∧ e = .returned (.tuple #[.pointer none, .int .i64 x]) ∧ Below w.heap.size w w' := by
  subst hn
  by_cases hx : newE p c s = 0
  · have hl : okL (slN c) (-1) l = false := by
      cases q : okL (slN c) (-1) l
      · rfl
      · rw [spOk_iff.2 ⟨hx, q⟩] at h; cases h
    exact (of_form p c s a k l w hT hI hm hx hl).mono fun e w' q => ⟨4, by decide, q.1, q.2⟩
  · exact (of_bad p c s a l.length k w hT hp _ rfl hx).mono fun e w' q => ⟨_, hx, q.1, q.2⟩
theorem iof_yes (p c s : Int) (a : Option Addr) (n k : Nat) (l : List Int) (w : World) (hn : n = l.length) (hT : Tabs w) (hI : IsI w a l) (hm : l.length ≤ maxLen) (h : spOk p c s l = true) :
    Calls Tryz.prog 61 #[.agg #[.int .i64 p, .int .i64 c, .int .i64 s, .slice a n k]] w fun e w' => ∃ sb b g, e = .returned (.tuple #[.pointer (some ⟨sb, 0, none⟩), .int .i64 0]) ∧ Spn w w' sb b g p c s (fOf l) := by
  subst hn
  obtain ⟨h1, h2⟩ := spOk_iff.1 h
  exact of_ok p c s a k l w hT hI hm h1 h2

set_option maxRecDepth 20000 in
set_option maxHeartbeats 2000000 in
/-- Size. -/
theorem isize_any (p c s : Int) (a : Option Addr) (n k : Nat) (l : List Int) (z : Int) (w : World) (hn : n = l.length) (hz : sizeG p c s l = z) (hT : Tabs w) (hI : IsI w a l) (hm : l.length ≤ maxLen) (hp : i64' p) :
    Calls Tryz.prog 24 #[.agg #[.int .i64 p, .int .i64 c, .int .i64 s, .slice a n k]] w fun e w' => e = .returned (.int .i64 z) ∧ Below w.heap.size w w' := by
  obtain ⟨D, hD, zD, rD, bD⟩ := dbox w p c s a n k
  have HD : Hid (w.alloc (.cells #[.int .i64 p, .int .i64 c, .int .i64 s, .slice a n k] 33) = D) := hD
  have BD : Hid (Below w.heap.size w D) := bD
  have TD : Hid (Tabs D) := hT.keep bD
  have ID : Hid (IsI D a l) := hI.keep bD
  have c0 := dcell0 rD
  have c1 := dcell1 rD
  have c2 := dcell2 rD
  have c3 := dcell3 rD
  have HN : Hid (n = l.length) := hn
  have HM : Hid (l.length ≤ maxLen) := hm
  have HP : Hid (i64' p) := hp
  clear hD zD rD bD hT hI hn hm hp
  cases h : spOk p c s l
  · have HZ : Hid (z = 0) := by show z = 0; rw [← hz, sizeG, if_neg (by rw [h]; decide)]
    have H : Hid (spOk p c s l = false) := h
    clear h hz
    go_enter Tryz.func24, Tryz.ntmps24
    go_upto_region 1 with (fail)
    rw [HD.out]
    go_wp2_with (first
      | (go_at_call 61; refine (iof_no p c s a n k l D HN.out TD.out ID.out HM.out HP.out H.out).mono ?_; rintro e w1 ⟨x, hx, rfl, b1⟩; have B1 : Hid (Below w.heap.size w w1) := BD.out.trans (b1.mono BD.out.size); clear b1 hx)
      | (go_at_call 62; refine (live_nil _).mono ?_; rintro e w' ⟨rfl, rfl⟩)
      | (go_at_call 63; refine (size_nil _).mono ?_; rintro e w' ⟨rfl, rfl⟩))
    go_ret
    exact ⟨ret_int (by rw [HZ.out]), B1.out⟩
  · have e1 := size_bd h
    obtain ⟨k1, k2⟩ := spOk_iff.1 h
    have RT : Hid (Rt p c s) := newE_rt k1
    obtain ⟨Z, hZ⟩ : ∃ Z, szI c s = Z := ⟨_, rfl⟩
    have HZ : Hid (szI c s = Z) := hZ
    obtain ⟨f1, f2, f3, f4, f5, _⟩ := RT.out.facts
    obtain ⟨L, hL⟩ : ∃ L, l.length = L := ⟨_, rfl⟩
    have hl := live_le k2
    have HC : Hid (cnt (fOf l) (slN c) = L) := by show _ = _; rw [← lsL_len, ls_of k2, hL]
    rw [hz, hZ, hL] at e1
    have z1 : Z ≤ 4096 := by omega
    have z0 : 1 ≤ Z := by omega
    have l1 : L ≤ 16 := by omega
    have HE : Hid ((L : Int) * Z = z) := e1.1.symm
    have wr : IntKind.i64.wrap ((L : Int) * Z) = z := by rw [e1.1.symm, IntKind.wrap_i64]; omega
    have y0 : 0 ≤ z := e1.2.1
    have y1 : z ≤ 4096 := e1.2.2
    have H : Hid (spOk p c s l = true) := h
    clear h hz e1 k1 k2 f1 f2 f3 f4 f5 hZ hl hL
    go_enter Tryz.func24, Tryz.ntmps24
    go_upto_region 1 with (fail)
    rw [HD.out]
    go_wp2_with (first
      | (go_at_call 61; refine (iof_yes p c s a n k l D HN.out TD.out ID.out HM.out H.out).mono ?_; rintro e w1 ⟨sb, b, g, rfl, s1⟩; have S1 : Hid (Spn D w1 sb b g p c s (fOf l)) := s1; clear s1)
      | (go_at_call 62; refine (live_any sb b g p c s (fOf l) _ S1.out.at').mono ?_; rw [HC.out]; rintro e w' ⟨rfl, rfl⟩)
      | (go_at_call 63; refine (size_rt sb p c s _ S1.out.at'.box (TD.out.keep S1.out.low).1 RT.out Z HZ.out).mono ?_; rintro e w' ⟨rfl, rfl⟩))
    go_ret
    exact ⟨ret_int (by first | rfl | exact wr | exact HE.out), BD.out.trans (S1.out.low.mono BD.out.size)⟩
end Go.Proofs.YtbfamjnnlcopiaaGreatDoor
