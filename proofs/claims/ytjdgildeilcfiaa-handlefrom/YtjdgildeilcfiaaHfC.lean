/- The document's table: Rows, Live, From; Same, Handles. -/
import Derived.Test.YtjdgildeilcfiaaHfB
namespace Go.Proofs.Ytjdgildeilcfiaa
open Go.RowKit
set_option linter.unusedVariables false

set_option maxHeartbeats 1000000 in
theorem same_true (a b : Option Addr) (c d : Nat) (xs : List Rw) (w : World) (h1 : IsW w a xs) (h2 : IsW w b xs) (hx : xs.length ≤ 9223372036854775807) :
    Calls Try.prog 15 #[.slice a xs.length c, .slice b xs.length d] w fun e w' => e = .returned (.bool true) ∧ ∃ m, w' = w.drewN m := by
  have H1 : Hid (IsW w a xs) := h1
  have H2 : Hid (IsW w b xs) := h2
  clear h1 h2
  obtain ⟨l, hl⟩ : ∃ l, xs.length = l := ⟨_, rfl⟩
  have EL : Hid (xs.length = l) := hl
  rw [hl] at hx ⊢
  clear hl
  go_enter Try.func15, Try.ntmps15
  go_wp2
  go_loopw [13] (fun iv wr => ∃ i m : Nat, i ≤ l ∧ iv = .int .i64 (i : Nat) ∧ wr = w.drewN m) (fun iv _ => l - (intOf iv).toNat)
  case atStart => exact ⟨0, 0, Nat.zero_le _, rfl, rfl⟩
  case round =>
    obtain ⟨i, m, hi, rfl, rfl⟩ := hrel
    by_cases hlt : i < l
    · have hil : i < xs.length := by rw [EL.out]; exact hlt
      rcases H1.out with e | ⟨ab, ao, rfl, _, ha⟩
      · rw [e] at hil; simp at hil
      · rcases H2.out with e | ⟨bb, bo, rfl, _, hb⟩
        · rw [e] at hil; simp at hil
        · obtain ⟨a0, a1, a2, a3⟩ := ha i hil
          obtain ⟨b0, b1, b2, b3⟩ := hb i hil
          obtain ⟨x, hxx⟩ : ∃ x, xs[i]'hil = x := ⟨_, rfl⟩
          rw [hxx] at a0 a1 a2 a3 b0 b1 b2 b3
          have e1 : (i : Int) < (l : Int) := by omega
          have e0 : (0 : Int) ≤ (i : Nat) := by omega
          clear ha hb hxx
          have t0 : (w.drewN m).cell? ⟨ab, ao + i * 4, none⟩ = some (.int .i64 x.gen) := a0
          have t1 : (w.drewN m).cell? ⟨ab, ao + i * 4 + 1, none⟩ = some (.bool x.live) := a1
          have t2 : (w.drewN m).cell? ⟨ab, ao + i * 4 + 2, none⟩ = some (.int .i64 x.kind) := a2
          have t3 : (w.drewN m).cell? ⟨ab, ao + i * 4 + 3, none⟩ = some (.int .i64 x.pl) := a3
          have u0 : (w.drewN m).cell? ⟨bb, bo + i * 4, none⟩ = some (.int .i64 x.gen) := b0
          have u1 : (w.drewN m).cell? ⟨bb, bo + i * 4 + 1, none⟩ = some (.bool x.live) := b1
          have u2 : (w.drewN m).cell? ⟨bb, bo + i * 4 + 2, none⟩ = some (.int .i64 x.kind) := b2
          have u3 : (w.drewN m).cell? ⟨bb, bo + i * 4 + 3, none⟩ = some (.int .i64 x.pl) := b3
          go_wp2_with fail
          go_quiet (fail)
          go_wp2
          go_roundw
          case rel => exact ⟨i + 1, _, by omega, by go_num, rfl⟩
          case measure => simp [intOf]; omega
    · obtain rfl : i = l := by omega
      go_wp2
      go_ret
      exact ⟨rfl, _, rfl⟩
set_option maxHeartbeats 1000000 in
theorem handles_true (a b : Option Addr) (c d : Nat) (xs : List Nat) (w : World) (h1 : IsH w a xs) (h2 : IsH w b xs) (hx : xs.length ≤ 9223372036854775807) :
    Calls Try.prog 31 #[.slice a xs.length c, .slice b xs.length d] w fun e w' => e = .returned (.bool true) ∧ ∃ m, w' = w.drewN m := by
  have H1 : Hid (IsH w a xs) := h1
  have H2 : Hid (IsH w b xs) := h2
  clear h1 h2
  obtain ⟨l, hl⟩ : ∃ l, xs.length = l := ⟨_, rfl⟩
  have EL : Hid (xs.length = l) := hl
  rw [hl] at hx ⊢
  clear hl
  go_enter Try.func31, Try.ntmps31
  go_wp2
  go_loopw [13] (fun iv wr => ∃ i m : Nat, i ≤ l ∧ iv = .int .i64 (i : Nat) ∧ wr = w.drewN m) (fun iv _ => l - (intOf iv).toNat)
  case atStart => exact ⟨0, 0, Nat.zero_le _, rfl, rfl⟩
  case round =>
    obtain ⟨i, m, hi, rfl, rfl⟩ := hrel
    by_cases hlt : i < l
    · have hil : i < xs.length := by rw [EL.out]; exact hlt
      rcases H1.out with e | ⟨ab, rfl, _, ha⟩
      · rw [e] at hil; simp at hil
      · rcases H2.out with e | ⟨bb, rfl, _, hb⟩
        · rw [e] at hil; simp at hil
        · have a0 := ha i hil
          have b0 := hb i hil
          obtain ⟨x, hxx⟩ : ∃ x, xs[i]'hil = x := ⟨_, rfl⟩
          rw [hxx] at a0 b0
          have e1 : (i : Int) < (l : Int) := by omega
          have e0 : (0 : Int) ≤ (i : Nat) := by omega
          clear ha hb hxx
          have t0 : (w.drewN m).cell? ⟨ab, i, none⟩ = some (.int .u64 (x : Nat)) := a0
          have u0 : (w.drewN m).cell? ⟨bb, i, none⟩ = some (.int .u64 (x : Nat)) := b0
          go_wp2_with fail
          go_quiet (fail)
          go_wp2
          go_roundw
          case rel => exact ⟨i + 1, _, by omega, by go_num, rfl⟩
          case measure => simp [intOf]; omega
    · obtain rfl : i = l := by omega
      go_wp2
      go_ret
      exact ⟨rfl, _, rfl⟩

set_option maxHeartbeats 1000000 in
theorem rlive_any (mb mg n : Nat) (L : List Rw) (w : World) (h : Rt w mb mg n L) :
    Calls Try.prog 17 #[.pointer (some ⟨mb, 0, none⟩)] w fun e w' => ∃ a' c', e = .returned (.slice a' (liveF 0 L).length c') ∧ Oh w' w.heap.size a' (liveF 0 L) c' ∧ Below w.heap.size w w' := by
  have H : Hid (Rt w mb mg n L) := h
  have c1 := h.cell
  have hn := h.n
  have PL : Hid ((pad n L).length = n) := pad_len h.gd.len
  have OKP : Hid (∀ i (hi : i < (pad n L).length), 0 ≤ (pad n L)[i].gen ∧ (pad n L)[i].gen ≤ 65535) := fun i hi => by
    rcases Nat.lt_or_ge i L.length with k | k
    · rw [pad_at k]; exact ⟨(h.gd.at k).1, (h.gd.at k).2.1⟩
    · rw [pad_z k]; decide
  have LP : Hid (liveF 0 (pad n L) = liveF 0 L) := liveF_pad
  clear h
  go_enter Try.func17, Try.ntmps17
  go_wp2
  go_loopw [3, 11] (fun av iv wr => ∃ (i : Nat) (a' : Option Addr) (c' : Nat), i ≤ n ∧ av = .slice a' (liveF 0 ((pad n L).take i)).length c' ∧ iv = .int .i64 (i : Nat) ∧ Oh wr w.heap.size a' (liveF 0 ((pad n L).take i)) c' ∧ Below w.heap.size w wr) (fun _ iv _ => n - (intOf iv).toNat)
  case atStart => exact ⟨0, none, 0, Nat.zero_le _, rfl, rfl, Oh.nil _ _, Below.refl _ _⟩
  case round =>
    obtain ⟨i, a', c', hi, rfl, rfl, hO, hB⟩ := hrel
    rename World => wr
    have HO : Hid (Oh wr w.heap.size a' (liveF 0 ((pad n L).take i)) c') := hO
    have HB : Hid (Below w.heap.size w wr) := hB
    have z1 := hB.size
    clear hO hB
    by_cases hlt : i < n
    · have hil : i < (pad n L).length := by rw [PL.out]; exact hlt
      obtain ⟨x, hx⟩ : ∃ x, (pad n L)[i]'hil = x := ⟨_, rfl⟩
      obtain ⟨k0, k1, k2, k3⟩ := (H.out.keep HB.out).cells i hlt x hx
      have TL : Hid (liveF 0 ((pad n L).take (i + 1)) = if x.live then liveF 0 ((pad n L).take i) ++ [ofN ((i : Int) + 1) x.gen] else liveF 0 ((pad n L).take i)) := by
        show _ = _
        rw [← hx]; exact liveF_take hil
      obtain ⟨M, hM⟩ : ∃ M, liveF 0 ((pad n L).take i) = M := ⟨_, rfl⟩
      have hMl : M.length ≤ 4096 := by
        have := liveF_len ((pad n L).take i) 0
        rw [hM] at this
        simp at this; omega
      have OX := OKP.out i hil
      rw [hx] at OX
      have o1 := OX.1
      have o2 := OX.2
      have hlt' : (i : Int) < (n : Int) := by omega
      rw [hM] at HO TL ⊢
      clear hx OX hM
      obtain ⟨xg, xl, xk, xp⟩ := x
      simp only at k0 k1 k2 k3 o1 o2
      cases xl with
      | false =>
        have TF : Hid (liveF 0 ((pad n L).take (i + 1)) = M) := TL.out
        go_wp2
        go_roundw
        case rel =>
          refine ⟨i + 1, a', c', by omega, by rw [TF.out], by go_num, ?_, ?_⟩
          · rw [TF.out]; exact HO.out.keep ((Below.refl _ wr).alloc (Nat.le_refl _) _)
          · exact HB.out.alloc z1 _
        case measure => simp [intOf]; omega
      | true =>
        have TT : Hid (liveF 0 ((pad n L).take (i + 1)) = M ++ [ofN ((i : Int) + 1) xg]) := TL.out
        obtain ⟨N, hN⟩ : ∃ N, ofN ((i : Int) + 1) xg = N := ⟨_, rfl⟩
        have EN : Hid (ofN ((i : Int) + 1) xg = N) := hN
        rw [hN] at TT
        obtain ⟨wz, hwz⟩ : ∃ wz, (wr.alloc (.cells #[.int .i64 xg, .bool true, .int .i64 xk, .int .i64 xp] 44)).alloc (.cells #[.int .u64 (N : Nat)] 34) = wz := ⟨_, rfl⟩
        have BZ : Below wr.heap.size wr wz := by rw [← hwz]; exact ((Below.refl _ wr).alloc (Nat.le_refl _) _).alloc (by simp) _
        have QZ : wz.heap[wr.heap.size + 1]? = some (.cells #[.int .u64 (N : Nat)] 34 (0, 0)) := by
          rw [← hwz]
          have := Go.heap_alloc_new (wr.alloc (.cells #[.int .i64 xg, .bool true, .int .i64 xk, .int .i64 xp] 44)) (.cells #[.int .u64 (N : Nat)] 34)
          rw [World.size_alloc] at this
          exact this
        obtain ⟨a2, c2, w2, hrun, r2, u2, o2'⟩ := appH_run 31 w.heap.size wz (by have := BZ.size; omega) a' M c' (HO.out.keep BZ) (wr.heap.size + 1) N 1 (cell_of_row wz _ 0 _ _ _ QZ) (by omega)
        have R2 : Hid (Oh w2 w.heap.size a2 (M ++ [N]) c2) := r2
        have B2 : Hid (Below w.heap.size w w2) := HB.out.trans ((BZ.mono z1).trans (u2.below (fun k hk => (HO.out.ge k hk).1) (by have := BZ.size; omega)))
        clear r2 u2 o2' QZ BZ hN TL
        go_wp2_with (first
          | (at_builtin; (try rw [hwz]); refine step_app rfl 31 _ _ rfl (.slice a' M.length c') (.slice (some ⟨wr.heap.size + 1, 0, none⟩) 1 1) (.slice a2 (M.length + 1) c2) w2 rfl rfl hrun ?_)
          | (go_at_call 19; refine (rof_q ((i : Int) + 1) xg N _ (by omega) (by omega) EN.out).mono ?_; rintro e w5 ⟨rfl, rfl⟩))
        go_roundw
        case rel =>
          refine ⟨i + 1, a2, c2, by omega, by rw [TT.out]; simp, by go_num, ?_, B2.out⟩
          rw [TT.out]; exact R2.out
        case measure => simp [intOf]; omega
    · obtain rfl : i = n := by omega
      have TE : Hid (liveF 0 ((pad i L).take i) = liveF 0 L) := by show _ = _; rw [List.take_of_length_le (by rw [PL.out]; exact Nat.le_refl _)]; exact LP.out
      rw [TE.out] at HO ⊢
      go_wp2
      go_ret
      exact ⟨a', c', rfl, HO.out, HB.out⟩

set_option maxHeartbeats 1000000 in
theorem rrows_any (mb mg n : Nat) (L : List Rw) (w : World) (h : Rt w mb mg n L) :
    Calls Try.prog 30 #[.pointer (some ⟨mb, 0, none⟩)] w fun e w' => ∃ a' c', e = .returned (.slice a' L.length c') ∧ Ow w' w.heap.size a' L c' ∧ Below w.heap.size w w' := by
  have H : Hid (Rt w mb mg n L) := h
  have c1 := h.cell
  have hn := h.n
  have PL : Hid ((pad n L).length = n) := pad_len h.gd.len
  have PG : Hid (∀ i (hi : i < (pad n L).length), (0 < (pad n L)[i].gen → i < L.length) ∧ (L.length = i + 1 → 0 < (pad n L)[i].gen)) := fun i hi => by
    constructor
    · intro hg
      rcases Nat.lt_or_ge i L.length with k | k
      · exact k
      · rw [pad_z k] at hg; exact absurd hg (by decide)
    · intro e
      have hlp : 0 < L.length := by omega
      have q := pad_last h.gd hlp
      have hil : i < L.length := by omega
      rw [pad_at hil]
      have e' : L.length - 1 = i := by omega
      simp only [e'] at q
      exact q
  clear h
  go_enter Try.func30, Try.ntmps30
  go_wp2
  go_loopw [3, 11] (fun mv iv wr => ∃ (i m : Nat), i ≤ n ∧ m ≤ i ∧ mv = .int .i64 (m : Nat) ∧ iv = .int .i64 (i : Nat) ∧ (L.length ≤ i → m = L.length) ∧ Below w.heap.size w wr) (fun _ iv _ => n - (intOf iv).toNat)
  case atStart => exact ⟨0, 0, Nat.zero_le _, Nat.zero_le _, rfl, rfl, fun e => by omega, Below.refl _ _⟩
  case round =>
    obtain ⟨i, m, hi, hmi, rfl, rfl, hm, hB⟩ := hrel
    rename World => wr
    have HM : Hid (L.length ≤ i → m = L.length) := hm
    have HB : Hid (Below w.heap.size w wr) := hB
    have z1 := hB.size
    by_cases hlt : i < n
    · have hil : i < (pad n L).length := by rw [PL.out]; exact hlt
      obtain ⟨x, hx⟩ : ∃ x, (pad n L)[i]'hil = x := ⟨_, rfl⟩
      obtain ⟨k0, k1, k2, k3⟩ := (H.out.keep hB).cells i hlt x hx
      obtain ⟨p1, p2⟩ := PG.out i hil
      rw [hx] at p1 p2
      have hlt' : (i : Int) < (n : Int) := by omega
      have P1 : Hid (0 < x.gen → i < L.length) := p1
      have P2 : Hid (L.length = i + 1 → 0 < x.gen) := p2
      clear hx hm hB p1 p2
      by_cases hg : 0 < x.gen
      · have hg' : x.gen > 0 := hg
        go_wp2
        go_roundw
        case rel => exact ⟨i + 1, i + 1, by omega, Nat.le_refl _, by go_num, by go_num, fun e => by have := P1.out hg; omega, HB.out.alloc z1 _⟩
        case measure => simp [intOf]; omega
      · have hg' : ¬ (x.gen > 0) := hg
        go_wp2
        go_roundw
        case rel => exact ⟨i + 1, m, by omega, by omega, rfl, by go_num, fun e => by
          by_cases e1 : L.length ≤ i
          · exact HM.out e1
          · exact absurd (P2.out (by omega)) hg, HB.out.alloc z1 _⟩
        case measure => simp [intOf]; omega
    · obtain rfl : i = n := by omega
      obtain rfl : m = L.length := HM.out hn.2.2
      have d1 := (H.out.keep hB).cell
      have d2 : (wr.alloc (.cells #[] 44)).cell? ⟨mb, 0, none⟩ = some (.slice (some ⟨mg, 0, none⟩) i i) := Lib.cell?_alloc_some _ d1
      obtain ⟨a', c', w', hrun, o, u, _⟩ := appW_run 40 wr.heap.size (wr.alloc (.cells #[] 44)) (by simp) (some ⟨wr.heap.size, 0, none⟩) [] 0 (Ow.made wr _ (Nat.le_refl _)) mg 0 L i (fun j hj => by
        obtain ⟨k0, k1, k2, k3⟩ := (H.out.keep hB).cells j (by omega) (L[j]) (by rw [pad_at hj])
        rw [Nat.zero_add]
        exact ⟨Lib.cell?_alloc_some _ k0, Lib.cell?_alloc_some _ k1, Lib.cell?_alloc_some _ k2, Lib.cell?_alloc_some _ k3⟩) (by simp; omega)
      simp only [List.length_nil, Nat.zero_add, List.nil_append] at hrun o
      have O : Hid (Ow w' w.heap.size a' L c') := o.mono z1
      have B : Hid (Below w.heap.size w w') := HB.out.trans (((Below.refl _ wr).alloc (Nat.le_refl _) _).trans (u.below (fun i hi => by have := Option.some.inj hi; have : wr.heap.size = i := this; omega) (by simp)) |>.mono z1)
      have e0 : (0 : Int) ≤ (L.length : Nat) := by omega
      have e1 : (L.length : Int) ≤ (i : Nat) := by omega
      clear hm hB o u
      go_wp2_with (at_builtin; refine step_app rfl 40 _ _ rfl (.slice (some ⟨wr.heap.size, 0, none⟩) 0 0) (.slice (some ⟨mg, 0, none⟩) L.length i) (.slice a' L.length c') w' rfl rfl hrun ?_)
      go_ret
      exact ⟨a', c', rfl, O.out, B.out⟩
end Go.Proofs.Ytjdgildeilcfiaa
