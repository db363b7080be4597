/- What the law CacheBack goes through. -/
import Derived.Test.YtgmljgogmbaioaaGreatDoorCxAB
namespace Go.Proofs.YtgmljgogmbaioaaGreatDoor
open Go.RowKit
set_option linter.unusedVariables false
set_option maxRecDepth 4000

/-- All objects but the first j. -/
def LeftJ (m0 m : List Sg) (live : List (Nat × Nat)) (j : Nat) : Prop := ∀ a z c, In m a z c 1 ↔ In m0 a z c 1 ∧ a ∉ (live.take j).map (·.1)
theorem LeftJ.zero (m : List Sg) (live : List (Nat × Nat)) : LeftJ m m live 0 := fun a z c => by simp
theorem LeftJ.here {m0 m : List Sg} {live : List (Nat × Nat)} {j : Nat} (h : LeftJ m0 m live j) (ho : Objs m0 live) (hj : j < live.length) : ∃ z c, In m (live[j]).1 z c 1 := by
  obtain ⟨z, c, hi, _⟩ := ho.here _ (List.getElem_mem hj)
  refine ⟨z, c, (h _ _ _).2 ⟨hi, fun hm => ?_⟩⟩
  have hn := ho.once
  rw [← List.take_append_drop j live, List.map_append, List.nodup_append] at hn
  exact hn.2.2 _ hm _ (List.mem_map.2 ⟨live[j], by rw [List.drop_eq_getElem_cons hj]; exact List.mem_cons_self, rfl⟩) rfl
theorem LeftJ.step {W P : Nat} {m0 m m' : List Sg} {live : List (Nat × Nat)} {j : Nat} (h : LeftJ m0 m live j) (hj : j < live.length) (g : Gave W P (live[j]).1 m m') : LeftJ m0 m' live (j + 1) := fun a z c => by
  have e : (live.take (j + 1)).map (·.1) = (live.take j).map (·.1) ++ [(live[j]).1] := by rw [List.take_succ_eq_append_getElem hj, List.map_append]; rfl
  rw [e]
  by_cases ha : a = (live[j]).1
  · subst ha
    exact ⟨fun hi => absurd hi (g.gone z c), fun hi => absurd (by simp) hi.2⟩
  · rw [g.else' a z c ha, h a z c]
    simp [ha]
theorem LeftJ.none {m0 m : List Sg} {live : List (Nat × Nat)} (h : LeftJ m0 m live live.length) (ho : Objs m0 live) : ∀ a z c, ¬ In m a z c 1 := fun a z c hi => by
  obtain ⟨h1, h2⟩ := (h a z c).1 hi
  rw [List.take_length] at h2
  exact h2 (ho.all a z c h1)

set_option maxHeartbeats 4000000 in
theorem cacheBack_any (p q : Int) (a : Option Addr) (n cap : Nat) (kd xx kk : Nat → Int) (w : World) (hT : Tabs w) (hp : 0 ≤ p ∧ p < 256) (hq : 0 ≤ q ∧ q < 256) (hS : IsC w a n kd xx kk) (hn : n ≤ 9223372036854775807) :
    Calls Tryz.prog 7 #[.agg #[.int .u8 p, .int .u8 q], .slice a n cap] w fun e w' => e = .returned (.bool true) ∧ Below w.heap.size w w' := by
  obtain ⟨P, hP⟩ : ∃ P : Nat, (P : Int) = 1 + p % 32 := ⟨(1 + p % 32).toNat, by omega⟩
  obtain ⟨W, hW⟩ : ∃ W : Nat, (W : Int) = 1 + q % 8 := ⟨(1 + q % 8).toNat, by omega⟩
  have HT : Hid (Tabs w) := hT
  have HS : Hid (IsC w a n kd xx kk) := hS
  have HPE : Hid ((P : Int) = 1 + p % 32) := hP
  have HWE : Hid ((W : Int) = 1 + q % 8) := hW
  obtain ⟨D, hD⟩ : ∃ D, w.alloc (.cells #[.int .u8 p, .int .u8 q] 23) = D := ⟨_, rfl⟩
  have BD : Hid (Below w.heap.size w D) := by show Below _ _ _; rw [← hD]; exact (Below.refl _ w).alloc (Nat.le_refl _) _
  have RD : Hid (D.heap[w.heap.size]? = some (.cells #[.int .u8 p, .int .u8 q] 23 (0, 0))) := by show _ = _; rw [← hD]; exact Go.heap_alloc_new w _
  have HD : Hid (w.alloc (.cells #[.int .u8 p, .int .u8 q] 23) = D) := hD
  clear hT hS hD
  go_enter Tryz.func7, Tryz.ntmps7
  go_wp2_with fail
  (try rw [HD.out])
  refine (kalive_any _ (HT.out.keep BD.out)).mono ?_
  rintro e w1 ⟨rfl, b1⟩
  have B1 : Hid (Below w.heap.size w w1) := BD.out.trans (b1.mono BD.out.size)
  have X1 : Hid (w1.heap[w.heap.size]? = some (.cells #[.int .u8 p, .int .u8 q] 23 (0, 0))) := bblock b1 RD.out
  have d0 : w1.cell? ⟨w.heap.size, 0, none⟩ = some (.int .u8 p) := cell_of_row _ _ 0 _ _ _ X1.out
  have d1 : w1.cell? ⟨w.heap.size, 1, none⟩ = some (.int .u8 q) := cell_of_row _ _ 1 _ _ _ X1.out
  have XC : Hid (∀ w', Below w1.heap.size w1 w' → w'.cell? ⟨w.heap.size, 0, none⟩ = some (.int .u8 p) ∧ w'.cell? ⟨w.heap.size, 1, none⟩ = some (.int .u8 q)) := fun w' hb => ⟨cell_of_row _ _ 0 _ _ _ (bblock hb X1.out), cell_of_row _ _ 1 _ _ _ (bblock hb X1.out)⟩
  clear b1
  go_wp2_with fail
  refine (made_any p q a n cap kd xx kk _ (HT.out.keep B1.out) hp hq (HS.out.keep B1.out) hn P W hP hW).mono ?_
  rintro e w2 ⟨cb, xb, L, m0, al, live, cl, rfl, m2, hl2⟩
  have M2 : Hid (Made w1 xb p q cb P W L m0 m0 al live cl w2) := m2
  have OB : Hid (Objs m0 live) := m2.objs
  have hW8 : W ≤ 8 ∧ 1 ≤ W ∧ P ≤ 4096 ∧ 1 ≤ P := ⟨m2.ok.w1, m2.ok.w0, m2.ok.p1, m2.ok.p0⟩
  clear m2 d0 d1 hP hW
  go_wp2
  go_loopw [24] (fun jv wy => ∃ (j : Nat) (L : Nat → Nat) (m : List Sg), j ≤ live.length ∧ jv = .int .i64 (j : Nat) ∧ Made w1 xb p q cb P W L m m0 al live cl wy ∧ LeftJ m0 m live j) (fun jv _ => live.length - lenW jv)
  case atStart => exact ⟨0, L, m0, Nat.zero_le _, rfl, M2.out, LeftJ.zero _ _⟩
  case round =>
    clear M2
    obtain ⟨j, L, m, hj, rfl, hM, hJ⟩ := hrel
    rename World => wy
    have M3 : Hid (Made w1 xb p q cb P W L m m0 al live cl wy) := hM
    have J3 : Hid (LeftJ m0 m live j) := hJ
    by_cases hjl : j < live.length
    · obtain ⟨g, hal, q0, q1⟩ := hM.lv.cells j hjl
      obtain ⟨z, c, hin⟩ := hJ.here OB.out hjl
      have hbd := (hin.bound hM.ok.fit).2.1
      obtain ⟨V, hV⟩ : ∃ V, j % W = V := ⟨_, rfl⟩
      have hVW : V < W := by rw [← hV]; exact Nat.mod_lt _ (by omega)
      have tm : (j : Int).tmod (W : Int) = (V : Nat) := by rw [Int.tmod_eq_emod_of_nonneg (by omega), ← hV]; simp
      have tm' : (j : Int) % (W : Int) = (V : Nat) := by rw [← hV]; simp
      obtain ⟨m', hgv⟩ := give_live (w := (V : Int)) hM.ok.fit (by omega) ⟨z, c, hin⟩
      obtain ⟨_, GV⟩ := give_ok hM.ok.fit hgv
      rw [Int.toNat_natCast] at GV
      have JN : Hid (LeftJ m0 m' live (j + 1)) := hJ.step hjl GV
      have FT : Hid (Fit W P 0 m') := GV.fit
      obtain ⟨y, hy⟩ : ∃ y, (live[j]).1 = y := ⟨_, rfl⟩
      obtain ⟨y2, hy2⟩ : ∃ y2, (live[j]).2 = y2 := ⟨_, rfl⟩
      rw [hy] at q0 hbd hgv
      rw [hy2] at q1
      have HGV : Hid (giveM W (V : Int) (y : Int) m = (0, m')) := hgv
      obtain ⟨E, hE⟩ : ∃ E, wy.alloc (.cells #[.int .i64 (y : Nat), .int .i64 (y2 : Nat)] 55) = E := ⟨_, rfl⟩
      have bE : Below wy.heap.size wy E := by rw [← hE]; exact (Below.refl _ wy).alloc (Nat.le_refl _) _
      have ME : Hid (Made w1 xb p q cb P W (lab L wy.heap.size 0) m m0 al live cl E) := hM.alloc bE
      have RE : Hid (E.heap[wy.heap.size]? = some (.cells #[.int .i64 (y : Nat), .int .i64 (y2 : Nat)] 55 (0, 0))) := by show _ = _; rw [← hE]; exact Go.heap_alloc_new wy _
      have HE : Hid (wy.alloc (.cells #[.int .i64 (y : Nat), .int .i64 (y2 : Nat)] 55) = E) := hE
      have u0 : E.cell? ⟨wy.heap.size, 0, none⟩ = some (.int .i64 (y : Nat)) := cell_of_row _ _ 0 _ _ _ RE.out
      obtain ⟨e0, e1⟩ := XC.out E ME.out.bel
      have LE : Hid (lab L wy.heap.size 0 wy.heap.size = 0) := lab_new (Nat.le_refl _)
      have k1 : (j : Int) < (live.length : Int) := by omega
      have wne : ¬ ((W : Int) = 0) := by omega
      have wnn : ¬ (W = 0) := by omega
      subst hal
      clear hM hJ hin hgv GV hy hy2 hE bE hV
      go_wp2_with fail
      (try rw [HE.out])
      go_region_held3 (fun w' => w'.cell? ⟨w.heap.size, 0, none⟩ = some (.int .u8 p) ∧ w'.cell? ⟨w.heap.size, 1, none⟩ = some (.int .u8 q) ∧ w'.cell? ⟨wy.heap.size, 0, none⟩ = some (.int .i64 (y : Nat))) (first | exact ⟨s0, s1, s2⟩ | exact ⟨r0, r1, r2⟩ | exact ⟨e0, e1, u0⟩)
        ((first
          | (go_at_call 26; refine (kgive_any _ cb P W m (V : Int) (y : Int) _ M5.out.ca M5.out.ok (by omega)).mono ?_; rw [HGV.out]; rintro e w6 ⟨rfl, hl6⟩; obtain ⟨L6, m6, mv6⟩ := M5.out.call hl6 FT.out; have M6 : Hid (Made w1 xb p q cb P W L6 m' m0 (some ⟨g, 0, none⟩) live cl w6) := m6; obtain ⟨s0, s1⟩ := XC.out w6 m6.bel; have s2 : w6.cell? ⟨wy.heap.size, 0, none⟩ = some (.int .i64 (y : Nat)) := cell_of_row _ _ 0 _ _ _ (mv6.tu.block _ _ R5.out (fun e => e Z5.out)); clear hl6 m6 mv6)
          | (go_at_call 12; refine (sworkers_any p q _ hq).mono ?_; rw [← HWE.out]; rintro e w5 ⟨rfl, b5⟩; have B5 : Below E.heap.size E w5 := Below.ofDrew b5; have M5 : Hid (Made w1 xb p q cb P W (lab (lab L wy.heap.size 0) E.heap.size 0) m m0 (some ⟨g, 0, none⟩) live cl w5) := ME.out.alloc B5; have R5 : Hid (w5.heap[wy.heap.size]? = some (.cells #[.int .i64 (y : Nat), .int .i64 (y2 : Nat)] 55 (0, 0))) := bblock B5 RE.out; have Z5 : Hid (lab (lab L wy.heap.size 0) E.heap.size 0 wy.heap.size = 0) := (lab_ext E _ 0 _ (hlt RE.out)).trans LE.out; have r0 := bcell B5 e0; have r1 := bcell B5 e1; have r2 := bcell B5 u0; clear b5 B5)))
      go_wp2
      go_roundw
      case rel => exact ⟨j + 1, L6, m', by omega, by congr 1, M6.out, JN.out⟩
      case measure => simp [lenW]; omega
    · obtain rfl : j = live.length := by omega
      obtain ⟨e0, e1⟩ := XC.out wy hM.bel
      have NO : Hid (∀ a z c, ¬ In m a z c 1) := hJ.none OB.out
      clear hM hJ
      go_wp2_with fail
      refine (flushed_any w1 wy xb p q cb P W L m m0 al live cl M3.out hq HWE.out).mono ?_
      rintro e w4 ⟨rfl, L4, m4, hM4, _, _, _, hE4⟩
      obtain rfl : m4 = [] := hE4 NO.out
      have M4 : Hid (Made w1 xb p q cb P W L4 [] m0 al live cl w4) := hM4
      clear hM4 hE4
      have HF : Hid (freeM P 0 [] = [(0, P)]) := by show _ = _; unfold freeM; rw [if_pos (by omega)]; simp
      go_wp2_with fail
      refine (kfree_any L4 cb P W [] _ M4.out.ca M4.out.ok).mono ?_
      rw [HF.out]
      rintro e w5 ⟨rfl, r5, b5⟩
      have R5 : Hid (Row w5 w4.heap.size [(0, P)]) := r5
      have M5 : Hid (Made w1 xb p q cb P W (lab L4 w4.heap.size 0) [] m0 al live cl w5) := M4.out.alloc b5
      obtain ⟨f0, f1⟩ := XC.out w5 M5.out.bel
      have k0 : w5.cell? ⟨w4.heap.size, 0, none⟩ = some (.int .i64 0) := r5.cell0 0 (by simp)
      have k1 : w5.cell? ⟨w4.heap.size, 1, none⟩ = some (.int .i64 (P : Nat)) := r5.cell1 0 (by simp)
      clear r5 b5 e0 e1
      go_wp2_with fail
      go_region_held3 (fun w' => w'.cell? ⟨w.heap.size, 0, none⟩ = some (.int .u8 p) ∧ w'.cell? ⟨w.heap.size, 1, none⟩ = some (.int .u8 q) ∧ w'.cell? ⟨w4.heap.size, 0, none⟩ = some (.int .i64 0) ∧ w'.cell? ⟨w4.heap.size, 1, none⟩ = some (.int .i64 (P : Nat))) (first | exact ⟨s0, s1, s2, s3⟩ | exact ⟨r0, r1, r2, r3⟩ | exact ⟨f0, f1, k0, k1⟩)
        ((first
          | (go_at_call 11; refine (spages_any p q _ hp).mono ?_; rw [← HPE.out]; rintro e w7 ⟨rfl, b7⟩; have B7 : Hid (Below w5.heap.size w5 w7) := B6.out.trans (b7.mono B6.out.size); have s0 := bcell B7.out f0; have s1 := bcell B7.out f1; have s2 := bcell B7.out k0; have s3 := bcell B7.out k1; clear b7)
          | (go_at_call 20; refine (kspans_any _ cb P W [] _ (M5.out.ca.keep (Ext.refl _ _) (Below.refl _ _).drew) M5.out.ok).mono ?_; rintro e w6 ⟨v, rfl, t6, b6⟩; obtain ⟨a6, c6, rfl⟩ := t6.form; have B6 : Hid (Below w5.heap.size w5 w6) := Below.ofDrew b6; have r0 := bcell B6.out f0; have r1 := bcell B6.out f1; have r2 := bcell B6.out k0; have r3 := bcell B6.out k1; clear b6 t6)))
      go_wp2
      go_ret
      have BF := B1.out.trans ((M5.out.bel.trans (B7.out.mono M5.out.bel.size)).mono B1.out.size)
      exact ⟨rfl, BF⟩
end Go.Proofs.YtgmljgogmbaioaaGreatDoor
