/- Layer 15: HdH again -/
import Derived.Test.YtgdjlopnhecmjaaGreatDoorGzBC
import Derived.Test.YtgdjlopnhecmjaaGreatDoorGzAJ
import Derived.Test.YtgdjlopnhecmjaaGreatDoorGzAY
import Derived.Test.YtgdjlopnhecmjaaGreatDoorGzAZ
import Derived.Test.YtgdjlopnhecmjaaGreatDoorGzBA
namespace Go.Proofs.YtgdjlopnhecmjaaGreatDoor
open Go.RowKit
set_option linter.unusedVariables false
set_option maxRecDepth 4000
set_option maxHeartbeats 2000000 in
theorem from_form (n : Nat) (a : Option Addr) (c : Nat) (xs : List HRw) (w : World) (h : IsW w a xs) (h1 : 1 ≤ n) (h2 : n ≤ 4096) (hg : ¬ Gd n xs) (hl : xs.length ≤ 9223372036854775807) :
    Calls Tryz.prog 145 #[.int .i64 (n : Nat), .slice a xs.length c] w fun e w' => e = .returned (.tuple #[.pointer none, .int .i64 4]) ∧ Below w.heap.size w w' := by
  rw [gd_iff h1 h2] at hg
  have H : Hid (IsW w a xs) := h
  have e1 : ¬ ((n : Int) < 1) := by omega
  have e2 : ¬ ((n : Int) > 4096) := by omega
  clear h
  by_cases q1 : xs.length ≤ n
  · have e3 : ¬ ((xs.length : Int) > (n : Int)) := by omega
    by_cases q2 : wxL xs < xs.length
    · have E : Hid (decide (wxL xs < xs.length) = true) := decide_eq_true q2
      clear hg
      go_enter Tryz.func145, Tryz.ntmps145
      go_wp2_with (go_at_call 202; refine (contains_any a c xs _ H.out (by omega)).mono ?_; rw [E.out]; rintro e w1 ⟨rfl, b1⟩; have B1 : Hid (Below w.heap.size w w1) := b1; clear b1)
      go_ret2
      exact ⟨rfl, B1.out⟩
    · have E : Hid (decide (wxL xs < xs.length) = false) := decide_eq_false q2
      have q3 : endB xs = true := by
        cases e : endB xs with
        | true => rfl
        | false => exact absurd ⟨q1, q2, e⟩ hg
      have E3 : Hid (endB xs = true) := q3
      clear hg q3
      go_enter Tryz.func145, Tryz.ntmps145
      go_wp2_with (first
        | (go_at_call 202; refine (contains_any a c xs _ H.out (by omega)).mono ?_; rw [E.out]; rintro e w1 ⟨rfl, b1⟩; have B1 : Hid (Below w.heap.size w w1) := b1; clear b1)
        | (go_at_call 204; refine (ends_any a c xs _ (H.out.keep B1.out) (by omega)).mono ?_; rw [E3.out]; rintro e w2 ⟨rfl, rfl⟩))
      go_ret2
      exact ⟨rfl, B1.out⟩
  · have e3 : (xs.length : Int) > (n : Int) := by omega
    clear hg
    go_enter Tryz.func145, Tryz.ntmps145
    go_wp2
    go_ret2
    exact ⟨rfl, Below.refl _ _⟩

set_option maxHeartbeats 2000000 in
theorem from_ok (n : Nat) (a : Option Addr) (c : Nat) (xs : List HRw) (w : World) (h : IsW w a xs) (hnil : a = none → xs = [] ∧ c = 0) (hs : ∀ ad, a = some ad → ad.spot = none) (hg : Gd n xs) :
    Calls Tryz.prog 145 #[.int .i64 (n : Nat), .slice a xs.length c] w fun e w' => ∃ b a' c', e = .returned (.tuple #[.pointer (some ⟨b, 0, none⟩), .int .i64 0]) ∧ Ct w' w.heap.size b a' c' n xs ∧ Below w.heap.size w w' := by
  have HG : Hid (Gd n xs) := hg
  have h1 := hg.n1
  have h2 := hg.n2
  obtain ⟨q1, q2, q3⟩ := (gd_iff h1 h2).1 hg
  have H : Hid (IsW w a xs) := h
  have HN : Hid ((a = none → xs = [] ∧ c = 0) ∧ ∀ ad, a = some ad → ad.spot = none) := ⟨hnil, hs⟩
  have e1 : ¬ ((n : Int) < 1) := by omega
  have e2 : ¬ ((n : Int) > 4096) := by omega
  have e3 : ¬ ((xs.length : Int) > (n : Int)) := by omega
  have E : Hid (decide (wxL xs < xs.length) = false) := decide_eq_false q2
  have E3 : Hid (endB xs = false) := q3
  clear h hg hnil hs q2 q3
  go_enter Tryz.func145, Tryz.ntmps145
  go_wp2_with (first
    | (go_at_call 202; refine (contains_any a c xs _ H.out (by omega)).mono ?_; rw [E.out]; rintro e w1 ⟨rfl, b1⟩; have B1 : Hid (Below w.heap.size w w1) := b1; have z1 := b1.size; clear b1)
    | (go_at_call 204; refine (ends_any a c xs _ (H.out.keep B1.out) (by omega)).mono ?_; rw [E3.out]; rintro e w2 ⟨rfl, rfl⟩)
    | (go_at_call 115; refine (clone_any a c xs _ (H.out.keep B1.out) HN.out.1 HN.out.2 (by omega)).mono ?_; rintro e w3 ⟨a', c', rfl, o3, b3⟩; have O3 : Hid (Ow w3 w.heap.size a' xs c') := o3.mono z1; have B3 : Hid (Below w.heap.size w w3) := B1.out.trans (b3.mono z1); have z3 := B3.out.size; clear o3 b3))
  go_ret2
  exact ⟨_, a', c', rfl, ⟨Go.heap_alloc_new w3 _, O3.out.keep ((Below.refl _ w3).alloc (Nat.le_refl _) _), HG.out, z3⟩, B3.out.alloc z3 _⟩

theorem Ow.gcell {w : World} {B : Nat} {a : Option Addr} {L : List HRw} {c : Nat} (h : Ow w B a L c) (i : Nat) (hi : i < L.length) (x : HRw) (hx : L[i] = x) : ∃ g, a = some ⟨g, 0, none⟩ ∧ B ≤ g ∧ g < w.heap.size ∧ w.cell? ⟨g, i * 4, none⟩ = some (.int .i64 x.gen) ∧ w.cell? ⟨g, i * 4 + 1, none⟩ = some (.bool x.live) ∧ w.cell? ⟨g, i * 4 + 2, none⟩ = some (.int .i64 x.kind) ∧ w.cell? ⟨g, i * 4 + 3, none⟩ = some (.int .i64 x.pl) := by
  subst hx; exact h.cells i hi

set_option maxHeartbeats 4000000 in
theorem hlive_any (B b : Nat) (a : Option Addr) (c n : Nat) (L : List HRw) (w : World) (h : Ct w B b a c n L) :
    Calls Tryz.prog 146 #[.pointer (some ⟨b, 0, none⟩)] w fun e w' => ∃ a' c', e = .returned (.slice a' (liveF 0 L).length c') ∧ Oh w' w.heap.size a' (liveF 0 L) c' ∧ Below w.heap.size w w' := by
  have H : Hid (Ct w B b a c n L) := h
  have c1 := h.cell1
  have hl := h.len
  clear h
  go_enter Tryz.func146, Tryz.ntmps146
  go_wp2
  go_loopw [3, 13] (fun av iv wr => ∃ (i : Nat) (a' : Option Addr) (c' : Nat), i ≤ L.length ∧ av = .slice a' (liveF 0 (L.take i)).length c' ∧ iv = .int .i64 (i : Nat) ∧ Oh wr w.heap.size a' (liveF 0 (L.take i)) c' ∧ Below w.heap.size w wr) (fun _ iv _ => L.length - (intOf iv).toNat)
  case atStart => exact ⟨0, none, 0, Nat.zero_le _, rfl, rfl, Oh.nil _ _, Below.refl _ _⟩
  case round =>
    obtain ⟨i, a', c', hi, rfl, rfl, hO, hB⟩ := hrel
    rename World => wr
    have HO : Hid (Oh wr w.heap.size a' (liveF 0 (L.take i)) c') := hO
    have HB : Hid (Below w.heap.size w wr) := hB
    have z1 := hB.size
    clear hO hB
    by_cases hlt : i < L.length
    · obtain ⟨x, hx⟩ : ∃ x, L[i] = x := ⟨_, rfl⟩
      obtain ⟨g, rfl, hgb, hgs, k0, k1, k2, k3⟩ := (H.out.keep HB.out).row.gcell i hlt x hx
      have TL : Hid (liveF 0 (L.take (i + 1)) = if x.live then liveF 0 (L.take i) ++ [ofN ((i : Int) + 1) x.gen] else liveF 0 (L.take i)) := by
        show _ = _
        rw [← hx]; exact liveF_take hlt
      obtain ⟨M, hM⟩ : ∃ M, liveF 0 (L.take i) = M := ⟨_, rfl⟩
      have hMl : M.length ≤ 4096 := by
        have := liveF_len (L.take i) 0
        rw [hM] at this
        simp at this; omega
      have OX := H.out.gd.at hlt
      rw [hx] at OX
      have o1 := OX.1
      have o2 := OX.2.1
      have hlt' : (i : Int) < (L.length : Int) := by omega
      rw [hM] at HO TL ⊢
      clear hx OX hM
      obtain ⟨xg, xl, xk, xp⟩ := x
      simp only at k0 k1 k2 k3 o1 o2
      cases xl with
      | false =>
        have TF : Hid (liveF 0 (L.take (i + 1)) = M) := TL.out
        go_wp2
        go_roundw
        case rel =>
          refine ⟨i + 1, a', c', by omega, by rw [TF.out], by go_num, ?_, ?_⟩
          · rw [TF.out]; exact HO.out.keep ((Below.refl _ wr).alloc (Nat.le_refl _) _)
          · exact HB.out.alloc z1 _
        case measure => simp [intOf]; omega
      | true =>
        have TT : Hid (liveF 0 (L.take (i + 1)) = M ++ [ofN ((i : Int) + 1) xg]) := TL.out
        obtain ⟨N, hN⟩ : ∃ N, ofN ((i : Int) + 1) xg = N := ⟨_, rfl⟩
        have EN : Hid (ofN ((i : Int) + 1) xg = N) := hN
        rw [hN] at TT
        obtain ⟨wz, hwz⟩ : ∃ wz, (wr.alloc (.cells #[.int .i64 xg, .bool true, .int .i64 xk, .int .i64 xp] 57)).alloc (.cells #[.int .u64 (N : Nat)] 38) = wz := ⟨_, rfl⟩
        have BZ : Below wr.heap.size wr wz := by rw [← hwz]; exact ((Below.refl _ wr).alloc (Nat.le_refl _) _).alloc (by simp) _
        have QZ : wz.heap[wr.heap.size + 1]? = some (.cells #[.int .u64 (N : Nat)] 38 (0, 0)) := by
          rw [← hwz]
          have := Go.heap_alloc_new (wr.alloc (.cells #[.int .i64 xg, .bool true, .int .i64 xk, .int .i64 xp] 57)) (.cells #[.int .u64 (N : Nat)] 38)
          rw [World.size_alloc] at this
          exact this
        obtain ⟨a2, c2, w2, hrun, r2, u2, o2'⟩ := happH_run 44 w.heap.size wz (by have := BZ.size; omega) a' M c' (HO.out.keep BZ) (wr.heap.size + 1) N 1 (cell_of_row wz _ 0 _ _ _ QZ) (by omega)
        have R2 : Hid (Oh w2 w.heap.size a2 (M ++ [N]) c2) := r2
        have B2 : Hid (Below w.heap.size w w2) := HB.out.trans ((BZ.mono z1).trans (u2.below (fun k hk => (HO.out.ge k hk).1) (by have := BZ.size; omega)))
        clear r2 u2 o2' QZ BZ hN TL
        go_wp2_with (first
          | (at_builtin; (try rw [hwz]); refine hstep_app rfl 44 _ _ rfl (.slice a' M.length c') (.slice (some ⟨wr.heap.size + 1, 0, none⟩) 1 1) (.slice a2 (M.length + 1) c2) w2 rfl rfl hrun ?_)
          | (go_at_call 135; refine (of_any ((i : Int) + 1) xg _ (by omega) (by omega)).mono ?_; rw [EN.out]; rintro e w5 ⟨rfl, rfl⟩))
        go_roundw
        case rel =>
          refine ⟨i + 1, a2, c2, by omega, by rw [TT.out]; simp, by go_num, ?_, B2.out⟩
          rw [TT.out]; exact R2.out
        case measure => simp [intOf]; omega
    · obtain rfl : i = L.length := by omega
      have TE : Hid (liveF 0 (L.take L.length) = liveF 0 L) := by show _ = _; rw [List.take_length]
      rw [TE.out] at HO ⊢
      go_wp2
      go_ret
      exact ⟨a', c', rfl, HO.out, HB.out⟩
end Go.Proofs.YtgdjlopnhecmjaaGreatDoor

/- Layer 15: the parts of a heap in memory, each with the blocks that it may lie in. -/
namespace Go.Proofs.YtgdjlopnhecmjaaGreatDoor
open Go.RowKit
set_option linter.unusedVariables false
set_option maxRecDepth 4000

theorem own_stay {w w' : World} {base n s : Nat} {e : TypeId} {v : Value} {xs : List Value} (h : w.ownsRow base e s v n xs) (he : ∀ g o, v.ownBlock = some g → w.heap[g]? = some o → w'.heap[g]? = some o) : w'.ownsRow base e s v n xs := by
  obtain ⟨h0, h1 | ⟨g, c', cur, h1, hg, h2, h3⟩⟩ := h
  · exact ⟨h0, .inl h1⟩
  · exact ⟨h0, .inr ⟨g, c', cur, h1, hg, he g _ (by rw [h1]; rfl) h2, h3⟩⟩
theorem own_blk {w : World} {base n s : Nat} {e : TypeId} {v : Value} {xs : List Value} (h : w.ownsRow base e s v n xs) : ∀ g, v.ownBlock = some g → g < w.heap.size := by
  intro g hg
  obtain ⟨_, ⟨h1, _⟩ | ⟨g', c', cur, h1, _, h2, _⟩⟩ := h
  · rw [h1] at hg; cases hg
  · rw [h1] at hg
    cases hg
    exact hlt h2

/-- The arena. -/
def EhA (w : World) (S : Nat → Prop) (b : Nat) (base : Int) (l : List Int) : Prop := ∃ g, IsA w b g base l ∧ S b ∧ S g
theorem EhA.mono {w : World} {S S' : Nat → Prop} {b : Nat} {base : Int} {l : List Int} (h : EhA w S b base l) (hs : ∀ k, k < w.heap.size → S k → S' k) : EhA w S' b base l := by
  obtain ⟨g, h, h1, h2⟩ := h
  exact ⟨g, h, hs _ h.lt h1, hs _ h.row.lt h2⟩
theorem EhA.stay {w w' : World} {S T : Nat → Prop} {b : Nat} {base : Int} {l : List Int} (h : EhA w S b base l) (ht : Tu T w w') (hd : ∀ k, S k → ¬ T k) : EhA w' S b base l := by
  obtain ⟨g, h, h1, h2⟩ := h
  exact ⟨g, ⟨ht.block _ _ h.box (hd _ h1), ht.block _ _ h.row (hd _ h2), h.all, h.ne, h.lo, h.hi, h.len⟩, h1, h2⟩
/-- The table of handles. -/
def EhN (w : World) (S : Nat → Prop) (b n : Nat) (L : List HRw) : Prop := ∃ B a c, Ct w B b a c n L ∧ S b ∧ ∀ g, ob a = some g → S g
theorem EhN.mono {w : World} {S S' : Nat → Prop} {b n : Nat} {L : List HRw} (h : EhN w S b n L) (hs : ∀ k, k < w.heap.size → S k → S' k) : EhN w S' b n L := by
  obtain ⟨B, a, c, h, h1, h2⟩ := h
  exact ⟨B, a, c, h, hs _ h.lt h1, fun g hg => hs _ (h.row.ge g hg).2 (h2 g hg)⟩
theorem EhN.stay {w w' : World} {S T : Nat → Prop} {b n : Nat} {L : List HRw} (h : EhN w S b n L) (ht : Tu T w w') (hd : ∀ k, S k → ¬ T k) : EhN w' S b n L := by
  obtain ⟨B, a, c, h, h1, h2⟩ := h
  exact ⟨B, a, c, h.tu ht (hd _ h1) (fun g hg => hd _ (h2 g hg)), h1, h2⟩
/-- The kinds. -/
def kns (xs : List Kd) : List Kn := xs.map (fun x => (⟨x.s, x.l⟩ : Kn))
def EhK (w : World) (S : Nat → Prop) (t : Nat) (ks : List Kn) : Prop := ∃ base lb ar cr xs, Tb w base lb t ar cr xs ∧ kns xs = ks ∧ lb ≤ w.heap.size ∧ S t ∧ (∀ g, iob ar = some g → S g) ∧ ∀ x ∈ xs, ∀ g, iob x.a = some g → S g
theorem own_iob {w : World} {base : Nat} {a : Option Addr} {l : List Int} {c : Nat} (h : OwnsI w base a l c) : ∀ g, iob a = some g → g < w.heap.size := fun g hg => own_blk h g (by cases a <;> exact hg)
theorem EhK.mono {w : World} {S S' : Nat → Prop} {t : Nat} {ks : List Kn} (h : EhK w S t ks) (hs : ∀ k, k < w.heap.size → S k → S' k) : EhK w S' t ks := by
  obtain ⟨base, lb, ar, cr, xs, h, he, hl, h1, h2, h3⟩ := h
  exact ⟨base, lb, ar, cr, xs, h, he, hl, hs _ h.lt h1, fun g hg => hs _ (h.row.geI g hg).2 (h2 g hg), fun x hx g hg => hs _ (own_iob (h.lists x hx) g hg) (h3 x hx g hg)⟩
theorem EhK.stay {w w' : World} {S T : Nat → Prop} {t : Nat} {ks : List Kn} (h : EhK w S t ks) (ht : Tu T w w') (hd : ∀ k, S k → ¬ T k) : EhK w' S t ks := by
  obtain ⟨base, lb, ar, cr, xs, h, he, hl, h1, h2, h3⟩ := h
  refine ⟨base, lb, ar, cr, xs, ⟨ht.block _ _ h.box (hd _ h1), ?_, fun k hk => ?_, h.right, h.all, h.len, h.ge⟩, he, Nat.le_trans hl ht.size, h1, h2, h3⟩
  · exact own_stay h.row (fun g o hg ho => ht.block g o ho (hd _ (h2 g (by cases ar <;> exact hg))))
  · exact own_stay (h.lists k hk) (fun g o hg ho => ht.block g o ho (hd _ (h3 k hk g (by cases hka : k.a <;> rw [hka] at hg <;> exact hg))))
/-- The places. -/
def EhC (w : World) (S : Nat → Prop) (cb P W : Nat) (m : List Sg) : Prop := ∃ L, Ca w L cb P W m ∧ ∀ k, k < w.heap.size → L k ≠ 0 → S k
theorem EhC.mono {w : World} {S S' : Nat → Prop} {cb P W : Nat} {m : List Sg} (h : EhC w S cb P W m) (hs : ∀ k, k < w.heap.size → S k → S' k) : EhC w S' cb P W m := by
  obtain ⟨L, h, h1⟩ := h
  exact ⟨L, h, fun k hk hl => hs k hk (h1 k hk hl)⟩
theorem EhC.stay {w w' : World} {S T : Nat → Prop} {cb P W : Nat} {m : List Sg} (h : EhC w S cb P W m) (ht : Tu T w w') (hd : ∀ k, S k → ¬ T k) (h0 : ¬ T 0) (h1 : ¬ T 1) : EhC w' S cb P W m := by
  obtain ⟨L, h, h2⟩ := h
  refine ⟨lab L w.heap.size 0, h.beside (lab_ext _ _ _) (ht.mono (fun k hk hT => .inl ⟨?_, fun e => h0 (e ▸ hT), fun e => h1 (e ▸ hT)⟩)), fun k hk hl => ?_⟩
  · by_cases e : L k = 0
    · exact e
    · exact absurd hT (hd k (h2 k hk e))
  · unfold lab at hl
    by_cases e : k < w.heap.size
    · rw [if_pos e] at hl
      exact h2 k e hl
    · rw [if_neg e] at hl
      exact absurd rfl hl
/-- Who lies where. -/
def EhW (w : World) (S : Nat → Prop) (b q : Nat) (f : Int → Option Nat) : Prop := MapH w b q f ∧ S b
theorem EhW.mono {w : World} {S S' : Nat → Prop} {b q : Nat} {f : Int → Option Nat} (h : EhW w S b q f) (hs : ∀ k, k < w.heap.size → S k → S' k) : EhW w S' b q f := ⟨h.1, hs _ h.1.lt h.2⟩
theorem EhW.stay {w w' : World} {S T : Nat → Prop} {b q : Nat} {f : Int → Option Nat} (h : EhW w S b q f) (ht : Tu T w w') (hd : ∀ k, S k → ¬ T k) : EhW w' S b q f := ⟨h.1.same (fun o ho => ht.block b o ho (hd _ h.2)), h.2⟩

/-- A heap in memory: labels tell which part a block is of: 1 its box, 2 the arena, 3 kinds, 4 places, 5 handles, 6 who lies where; 0: not the heap's. -/
structure Ehx (w : World) (Λ : Nat → Nat) (hb pa pk pc pn mb q W : Nat) (base : Int) (bs : List Int) (ks : List Kn) (P : Nat) (m : List Sg) (N : Nat) (rs : List HRw) (f : Int → Option Nat) : Prop where
  tab : Tabs w
  l0 : Λ 0 = 0
  l1 : Λ 1 = 0
  box : w.heap[hb]? = some (.cells #[.int .i64 (W : Nat), .pointer (some ⟨pa, 0, none⟩), .pointer (some ⟨pk, 0, none⟩), .pointer (some ⟨pc, 0, none⟩), .pointer (some ⟨pn, 0, none⟩), .map (some mb)] 114 (0, 0))
  lb : Λ hb = 1
  fa : EhA w (fun k => Λ k = 2) pa base bs
  fk : EhK w (fun k => Λ k = 3) pk ks
  fc : EhC w (fun k => Λ k = 4) pc P W m
  fn : EhN w (fun k => Λ k = 5) pn N rs
  fw : EhW w (fun k => Λ k = 6) mb q f
/-- What a step of a heap does to memory. -/
structure Ehm (Λ : Nat → Nat) (w : World) (Λ' : Nat → Nat) (w' : World) : Prop where
  ext : Ext w Λ Λ'
  tu : Tu (fun k => 1 ≤ Λ k ∧ Λ k ≤ 6) w w'
  new : ∀ k, w.heap.size ≤ k → k < w'.heap.size → Λ' k ≤ 6
theorem Ehm.refl (Λ : Nat → Nat) (w : World) : Ehm Λ w Λ w := ⟨Ext.refl _ _, Tu.refl _ _, fun k h1 h2 => by omega⟩
theorem Ehm.trans {Λ Λ1 Λ2 : Nat → Nat} {w w1 w2 : World} (h : Ehm Λ w Λ1 w1) (k : Ehm Λ1 w1 Λ2 w2) : Ehm Λ w Λ2 w2 := by
  refine ⟨h.ext.trans k.ext h.tu.size, ⟨k.tu.os.trans h.tu.os, k.tu.tape.trans h.tu.tape, k.tu.output.trans h.tu.output, Nat.le_trans h.tu.size k.tu.size, fun i o ho hk => k.tu.block i o (h.tu.block i o ho hk) (by rw [h.ext i (hlt ho)]; exact hk)⟩, fun i h1 h2 => ?_⟩
  by_cases e : i < w1.heap.size
  · rw [k.ext i e]; exact h.new i h1 e
  · exact k.new i (by omega) h2
theorem Ehm.of {Λ : Nat → Nat} {w w' : World} (i : Nat) (hi : i ≤ 6) (ht : Tu (fun k => Λ k = i ∧ i ≠ 0) w w') : Ehm Λ w (lab Λ w.heap.size i) w' :=
  ⟨lab_ext _ _ _, ht.mono (fun k _ h => by omega), fun k h1 _ => by rw [lab_new h1]; exact hi⟩
section
variable {w w' : World} {Λ : Nat → Nat} {hb pa pk pc pn mb q W : Nat} {base : Int} {bs : List Int} {ks : List Kn} {P : Nat} {m : List Sg} {N : Nat} {rs : List HRw} {f : Int → Option Nat}
theorem Ehx.fa' (h : Ehx w Λ hb pa pk pc pn mb q W base bs ks P m N rs f) (i : Nat) (ht : Tu (fun k => Λ k = i ∧ i ≠ 0) w w') (hi : i ≠ 2) : EhA w' (fun k => lab Λ w.heap.size i k = 2) pa base bs :=
  (h.fa.mono (S' := fun k => k < w.heap.size ∧ Λ k = 2) (fun k hk e => ⟨hk, e⟩)).stay ht (fun k e e' => by have := e.2; omega) |>.mono (fun k _ e => by rw [lab_ext w Λ i k e.1]; exact e.2)
theorem Ehx.fk' (h : Ehx w Λ hb pa pk pc pn mb q W base bs ks P m N rs f) (i : Nat) (ht : Tu (fun k => Λ k = i ∧ i ≠ 0) w w') (hi : i ≠ 3) : EhK w' (fun k => lab Λ w.heap.size i k = 3) pk ks :=
  (h.fk.mono (S' := fun k => k < w.heap.size ∧ Λ k = 3) (fun k hk e => ⟨hk, e⟩)).stay ht (fun k e e' => by have := e.2; omega) |>.mono (fun k _ e => by rw [lab_ext w Λ i k e.1]; exact e.2)
theorem Ehx.fc' (h : Ehx w Λ hb pa pk pc pn mb q W base bs ks P m N rs f) (i : Nat) (ht : Tu (fun k => Λ k = i ∧ i ≠ 0) w w') (hi : i ≠ 4) : EhC w' (fun k => lab Λ w.heap.size i k = 4) pc P W m :=
  (h.fc.mono (S' := fun k => k < w.heap.size ∧ Λ k = 4) (fun k hk e => ⟨hk, e⟩)).stay ht (fun k e e' => by have := e.2; omega) (fun e => by have := h.l0; omega) (fun e => by have := h.l1; omega) |>.mono (fun k _ e => by rw [lab_ext w Λ i k e.1]; exact e.2)
theorem Ehx.fn' (h : Ehx w Λ hb pa pk pc pn mb q W base bs ks P m N rs f) (i : Nat) (ht : Tu (fun k => Λ k = i ∧ i ≠ 0) w w') (hi : i ≠ 5) : EhN w' (fun k => lab Λ w.heap.size i k = 5) pn N rs :=
  (h.fn.mono (S' := fun k => k < w.heap.size ∧ Λ k = 5) (fun k hk e => ⟨hk, e⟩)).stay ht (fun k e e' => by have := e.2; omega) |>.mono (fun k _ e => by rw [lab_ext w Λ i k e.1]; exact e.2)
theorem Ehx.fw' (h : Ehx w Λ hb pa pk pc pn mb q W base bs ks P m N rs f) (i : Nat) (ht : Tu (fun k => Λ k = i ∧ i ≠ 0) w w') (hi : i ≠ 6) : EhW w' (fun k => lab Λ w.heap.size i k = 6) mb q f :=
  (h.fw.mono (S' := fun k => k < w.heap.size ∧ Λ k = 6) (fun k hk e => ⟨hk, e⟩)).stay ht (fun k e e' => by have := e.2; omega) |>.mono (fun k _ e => by rw [lab_ext w Λ i k e.1]; exact e.2)
theorem Ehx.lt (h : Ehx w Λ hb pa pk pc pn mb q W base bs ks P m N rs f) : hb < w.heap.size := hlt h.box
theorem Ehx.hd (h : Ehx w Λ hb pa pk pc pn mb q W base bs ks P m N rs f) (i : Nat) (ht : Tu (fun k => Λ k = i ∧ i ≠ 0) w w') (hi : i ≠ 1) :
    Tabs w' ∧ lab Λ w.heap.size i 0 = 0 ∧ lab Λ w.heap.size i 1 = 0 ∧ w'.heap[hb]? = some (.cells #[.int .i64 (W : Nat), .pointer (some ⟨pa, 0, none⟩), .pointer (some ⟨pk, 0, none⟩), .pointer (some ⟨pc, 0, none⟩), .pointer (some ⟨pn, 0, none⟩), .map (some mb)] 114 (0, 0)) ∧ lab Λ w.heap.size i hb = 1 := by
  have t0 := h.tab.1.1
  have t1 := h.tab.2.1
  have l0 := h.l0
  have l1 := h.l1
  refine ⟨h.tab.tu ht (fun e => by omega) (fun e => by omega), (lab_ext w Λ i 0 t0).trans l0, (lab_ext w Λ i 1 t1).trans l1, ht.block hb _ h.box (fun e => by have := h.lb; omega), (lab_ext w Λ i hb h.lt).trans h.lb⟩
/-- The arena has turned. -/
theorem Ehx.arena (h : Ehx w Λ hb pa pk pc pn mb q W base bs ks P m N rs f) (ht : Tu (fun k => Λ k = 2 ∧ (2 : Nat) ≠ 0) w w') {bs' : List Int} (fa : EhA w' (fun k => lab Λ w.heap.size 2 k = 2) pa base bs') : Ehx w' (lab Λ w.heap.size 2) hb pa pk pc pn mb q W base bs' ks P m N rs f := by
  obtain ⟨a1, a2, a3, a4, a5⟩ := h.hd 2 ht (by decide)
  exact ⟨a1, a2, a3, a4, a5, fa, h.fk' 2 ht (by decide), h.fc' 2 ht (by decide), h.fn' 2 ht (by decide), h.fw' 2 ht (by decide)⟩
theorem Ehx.kinds (h : Ehx w Λ hb pa pk pc pn mb q W base bs ks P m N rs f) (ht : Tu (fun k => Λ k = 3 ∧ (3 : Nat) ≠ 0) w w') {ks' : List Kn} (fk : EhK w' (fun k => lab Λ w.heap.size 3 k = 3) pk ks') : Ehx w' (lab Λ w.heap.size 3) hb pa pk pc pn mb q W base bs ks' P m N rs f := by
  obtain ⟨a1, a2, a3, a4, a5⟩ := h.hd 3 ht (by decide)
  exact ⟨a1, a2, a3, a4, a5, h.fa' 3 ht (by decide), fk, h.fc' 3 ht (by decide), h.fn' 3 ht (by decide), h.fw' 3 ht (by decide)⟩
theorem Ehx.places (h : Ehx w Λ hb pa pk pc pn mb q W base bs ks P m N rs f) (ht : Tu (fun k => Λ k = 4 ∧ (4 : Nat) ≠ 0) w w') {m' : List Sg} (fc : EhC w' (fun k => lab Λ w.heap.size 4 k = 4) pc P W m') : Ehx w' (lab Λ w.heap.size 4) hb pa pk pc pn mb q W base bs ks P m' N rs f := by
  obtain ⟨a1, a2, a3, a4, a5⟩ := h.hd 4 ht (by decide)
  exact ⟨a1, a2, a3, a4, a5, h.fa' 4 ht (by decide), h.fk' 4 ht (by decide), fc, h.fn' 4 ht (by decide), h.fw' 4 ht (by decide)⟩
theorem Ehx.names (h : Ehx w Λ hb pa pk pc pn mb q W base bs ks P m N rs f) (ht : Tu (fun k => Λ k = 5 ∧ (5 : Nat) ≠ 0) w w') {rs' : List HRw} (fn : EhN w' (fun k => lab Λ w.heap.size 5 k = 5) pn N rs') : Ehx w' (lab Λ w.heap.size 5) hb pa pk pc pn mb q W base bs ks P m N rs' f := by
  obtain ⟨a1, a2, a3, a4, a5⟩ := h.hd 5 ht (by decide)
  exact ⟨a1, a2, a3, a4, a5, h.fa' 5 ht (by decide), h.fk' 5 ht (by decide), h.fc' 5 ht (by decide), fn, h.fw' 5 ht (by decide)⟩
theorem Ehx.who (h : Ehx w Λ hb pa pk pc pn mb q W base bs ks P m N rs f) (ht : Tu (fun k => Λ k = 6 ∧ (6 : Nat) ≠ 0) w w') {q' : Nat} {f' : Int → Option Nat} (fw : EhW w' (fun k => lab Λ w.heap.size 6 k = 6) mb q' f') : Ehx w' (lab Λ w.heap.size 6) hb pa pk pc pn mb q' W base bs ks P m N rs f' := by
  obtain ⟨a1, a2, a3, a4, a5⟩ := h.hd 6 ht (by decide)
  exact ⟨a1, a2, a3, a4, a5, h.fa' 6 ht (by decide), h.fk' 6 ht (by decide), h.fc' 6 ht (by decide), h.fn' 6 ht (by decide), fw⟩
/-- New memory that isn't the heap's. -/
theorem Ehx.keep (h : Ehx w Λ hb pa pk pc pn mb q W base bs ks P m N rs f) (b : Below w.heap.size w w') : Ehx w' (lab Λ w.heap.size 0) hb pa pk pc pn mb q W base bs ks P m N rs f ∧ Ehm Λ w (lab Λ w.heap.size 0) w' := by
  have ht : Tu (fun k => Λ k = 0 ∧ (0 : Nat) ≠ 0) w w' := Tu.ofBelow b
  obtain ⟨a1, a2, a3, a4, a5⟩ := h.hd 0 ht (by decide)
  exact ⟨⟨a1, a2, a3, a4, a5, h.fa' 0 ht (by decide), h.fk' 0 ht (by decide), h.fc' 0 ht (by decide), h.fn' 0 ht (by decide), h.fw' 0 ht (by decide)⟩, Ehm.of 0 (by decide) ht⟩
theorem Ehx.cells (h : Ehx w Λ hb pa pk pc pn mb q W base bs ks P m N rs f) : w.cell? ⟨hb, 0, none⟩ = some (.int .i64 (W : Nat)) ∧ w.cell? ⟨hb, 1, none⟩ = some (.pointer (some ⟨pa, 0, none⟩)) ∧ w.cell? ⟨hb, 2, none⟩ = some (.pointer (some ⟨pk, 0, none⟩)) ∧ w.cell? ⟨hb, 3, none⟩ = some (.pointer (some ⟨pc, 0, none⟩)) ∧ w.cell? ⟨hb, 4, none⟩ = some (.pointer (some ⟨pn, 0, none⟩)) ∧ w.cell? ⟨hb, 5, none⟩ = some (.map (some mb)) :=
  ⟨cell_of_row _ _ 0 _ _ _ h.box, cell_of_row _ _ 1 _ _ _ h.box, cell_of_row _ _ 2 _ _ _ h.box, cell_of_row _ _ 3 _ _ _ h.box, cell_of_row _ _ 4 _ _ _ h.box, cell_of_row _ _ 5 _ _ _ h.box⟩
/-- The arena, and what a call on it makes of the heap. -/
theorem Ehx.ar (h : Ehx w Λ hb pa pk pc pn mb q W base bs ks P m N rs f) : ∃ g, IsA w pa g base bs ∧ ∀ (w' : World) (bs' : List Int), IsA w' pa g base bs' → Tg g w w' → Ehx w' (lab Λ w.heap.size 2) hb pa pk pc pn mb q W base bs' ks P m N rs f ∧ Ehm Λ w (lab Λ w.heap.size 2) w' := by
  obtain ⟨g, hA, l1, l2⟩ := h.fa
  refine ⟨g, hA, fun w' bs' hA' t => ?_⟩
  have ht : Tu (fun k => Λ k = 2 ∧ (2 : Nat) ≠ 0) w w' := ⟨t.os, t.tape, t.output, t.size, fun i o ho hk => by rw [t.block i (hlt ho) (fun e => hk ⟨by rw [e]; exact l2, by decide⟩)]; exact ho⟩
  exact ⟨h.arena ht ⟨g, hA', (lab_ext w Λ 2 _ hA.lt).trans l1, (lab_ext w Λ 2 _ hA.row.lt).trans l2⟩, Ehm.of 2 (by decide) ht⟩
theorem Ehx.nm (h : Ehx w Λ hb pa pk pc pn mb q W base bs ks P m N rs f) : ∃ B a c, Ct w B pn a c N rs ∧ B ≤ w.heap.size ∧ ∀ (w' : World) (a' : Option Addr) (c' : Nat) (rs' : List HRw), Ct w' B pn a' c' N rs' → Tu (Mine pn a) w w' → (ob a' = ob a ∨ ∃ g, ob a' = some g ∧ w.heap.size ≤ g) → Ehx w' (lab Λ w.heap.size 5) hb pa pk pc pn mb q W base bs ks P m N rs' f ∧ Ehm Λ w (lab Λ w.heap.size 5) w' := by
  obtain ⟨B, a, c, hC, l1, l2⟩ := h.fn
  refine ⟨B, a, c, hC, by have := hC.bb; have := hC.lt; omega, fun w' a' c' rs' hC' t ha => ?_⟩
  have ht : Tu (fun k => Λ k = 5 ∧ (5 : Nat) ≠ 0) w w' := t.mono (fun k _ hk => by
    rcases hk with rfl | hk
    · exact ⟨l1, by decide⟩
    · exact ⟨l2 k hk, by decide⟩)
  refine ⟨h.names ht ⟨B, a', c', hC', (lab_ext w Λ 5 _ hC.lt).trans l1, fun g hg => ?_⟩, Ehm.of 5 (by decide) ht⟩
  rcases ha with e | ⟨g', e, hs⟩
  · rw [e] at hg
    exact (lab_ext w Λ 5 _ (hC.row.ge g hg).2).trans (l2 g hg)
  · rw [e] at hg
    cases hg
    exact lab_new hs
theorem Ehx.ca (h : Ehx w Λ hb pa pk pc pn mb q W base bs ks P m N rs f) : ∃ L, Ca w L pc P W m ∧ ∀ (w' : World) (m' : List Sg), Left L w pc P W m' w' → Ehx w' (lab Λ w.heap.size 4) hb pa pk pc pn mb q W base bs ks P m' N rs f ∧ Ehm Λ w (lab Λ w.heap.size 4) w' := by
  obtain ⟨L, hC, hl⟩ := h.fc
  refine ⟨L, hC, fun w' m' hL => ?_⟩
  obtain ⟨L', hC', hm⟩ := hL
  have ht : Tu (fun k => Λ k = 4 ∧ (4 : Nat) ≠ 0) w w' := hm.tu.mono (fun k hk e => ⟨hl k hk e, by decide⟩)
  refine ⟨h.places ht ⟨L', hC', fun k hk e => ?_⟩, Ehm.of 4 (by decide) ht⟩
  by_cases c : k < w.heap.size
  · rw [hm.ext k c] at e
    exact (lab_ext w Λ 4 k c).trans (hl k c e)
  · exact lab_new (by omega)
theorem Ehx.wh (h : Ehx w Λ hb pa pk pc pn mb q W base bs ks P m N rs f) : MapH w mb q f ∧ ∀ (w' : World) (q' : Nat) (f' : Int → Option Nat), MapH w' mb q' f' → Only mb w w' → Ehx w' (lab Λ w.heap.size 6) hb pa pk pc pn mb q' W base bs ks P m N rs f' ∧ Ehm Λ w (lab Λ w.heap.size 6) w' := by
  refine ⟨h.fw.1, fun w' q' f' hM on => ?_⟩
  have ht : Tu (fun k => Λ k = 6 ∧ (6 : Nat) ≠ 0) w w' := Tu.ofOnly on ⟨h.fw.2, by decide⟩
  exact ⟨h.who ht ⟨hM, (lab_ext w Λ 6 _ h.fw.1.lt).trans h.fw.2⟩, Ehm.of 6 (by decide) ht⟩
theorem Ehx.kd (h : Ehx w Λ hb pa pk pc pn mb q W base bs ks P m N rs f) : ∃ base' lb ar cr xs, Tb w base' lb pk ar cr xs ∧ kns xs = ks ∧ base' ≤ w.heap.size ∧ lb ≤ w.heap.size ∧ ∀ (w' : World) (ar' : Option Addr) (cr' : Nat) (s : Int) (a' : Option Addr) (c' : Nat) (l : List Int), Tb w' base' lb pk ar' cr' (xs ++ [⟨s, a', c', l⟩]) → OwnsI w' w.heap.size a' l c' → iT2 pk (iob ar) w w' → (iob ar' = iob ar ∨ ∃ g, iob ar' = some g ∧ w.heap.size ≤ g) →
    Ehx w' (lab Λ w.heap.size 3) hb pa pk pc pn mb q W base bs (ks ++ [⟨s, l⟩]) P m N rs f ∧ Ehm Λ w (lab Λ w.heap.size 3) w' := by
  obtain ⟨base', lb, ar, cr, xs, hT, he, hlb, l1, l2, l3⟩ := h.fk
  refine ⟨base', lb, ar, cr, xs, hT, he, by have := hT.ge; have := hT.lt; omega, hlb, fun w' ar' cr' s a' c' l hT' o t ha => ?_⟩
  have ht : Tu (fun k => Λ k = 3 ∧ (3 : Nat) ≠ 0) w w' := ⟨t.os, t.tape, t.output, t.size, fun i o ho hk => by rw [t.block i (hlt ho) (fun e => hk ⟨by rw [e]; exact l1, by decide⟩) (fun e => hk ⟨l2 i e.symm, by decide⟩)]; exact ho⟩
  refine ⟨h.kinds ht ⟨base', lb, ar', cr', _, hT', by rw [← he]; unfold kns; rw [List.map_append]; rfl, Nat.le_trans hlb t.size, (lab_ext w Λ 3 _ hT.lt).trans l1, fun g hg => ?_, fun x hx g hg => ?_⟩, Ehm.of 3 (by decide) ht⟩
  · rcases ha with e | ⟨g', e, hs⟩
    · rw [e] at hg
      exact (lab_ext w Λ 3 _ (hT.row.geI g hg).2).trans (l2 g hg)
    · rw [e] at hg
      cases hg
      exact lab_new hs
  · rcases List.mem_append.1 hx with hx | hx
    · exact (lab_ext w Λ 3 _ (own_iob (hT.lists x hx) g hg)).trans (l3 x hx g hg)
    · simp at hx
      subst hx
      refine lab_new ?_
      cases a' with
      | none => cases hg
      | some ad =>
        cases hg
        exact (o.parts.2.2.2 ad rfl).1
theorem Ehx.drewN (h : Ehx w Λ hb pa pk pc pn mb q W base bs ks P m N rs f) (n : Nat) : Ehx (w.drewN n) Λ hb pa pk pc pn mb q W base bs ks P m N rs f := by
  have t : Tu (fun _ => False) w (w.drewN n) := ⟨rfl, rfl, rfl, Nat.le_refl _, fun _ _ h _ => h⟩
  exact ⟨h.tab, h.l0, h.l1, h.box, h.lb, h.fa.stay t (fun _ _ e => e), h.fk.stay t (fun _ _ e => e), h.fc.stay t (fun _ _ e => e) (fun e => e) (fun e => e), h.fn.stay t (fun _ _ e => e), h.fw.stay t (fun _ _ e => e)⟩
theorem Ehx.drew (h : Ehx w Λ hb pa pk pc pn mb q W base bs ks P m N rs f) : Ehx w.drew Λ hb pa pk pc pn mb q W base bs ks P m N rs f := by
  have t : Tu (fun _ => False) w w.drew := ⟨rfl, rfl, rfl, Nat.le_refl _, fun _ _ h _ => h⟩
  exact ⟨h.tab, h.l0, h.l1, h.box, h.lb, h.fa.stay t (fun _ _ e => e), h.fk.stay t (fun _ _ e => e), h.fc.stay t (fun _ _ e => e) (fun e => e) (fun e => e), h.fn.stay t (fun _ _ e => e), h.fw.stay t (fun _ _ e => e)⟩
end
theorem Ehm.drewN {Λ Λ' : Nat → Nat} {w w' : World} (h : Ehm Λ w Λ' w') (n : Nat) : Ehm Λ w Λ' (w'.drewN n) := ⟨h.ext, ⟨h.tu.os, h.tu.tape, h.tu.output, h.tu.size, h.tu.block⟩, h.new⟩
end Go.Proofs.YtgdjlopnhecmjaaGreatDoor
