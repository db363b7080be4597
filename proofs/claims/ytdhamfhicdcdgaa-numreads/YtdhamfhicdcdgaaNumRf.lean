/- The document's answers: what Same, Width, Put, Get, Var and Copy of the reference return. -/
import Derived.Test.YtdhamfhicdcdgaaNumLw
import Derived.Laws.IdiomStrings
namespace Go.Proofs.Ytdhamfhicdcdgaa
open Go.RowKit
set_option linter.unusedVariables false

/-- Bytes as a string. -/
def bs (l : List Int) : ByteArray := ⟨(l.map (fun x => UInt8.ofNat x.toNat)).toArray⟩

theorem conv_run (w : World) (a : Option Addr) (cap : Nat) (l : List Int) (h : IsB w a l) :
    (convert 23 9 (.slice a l.length cap)).run Try.prog w = .ok (.string (bs l)) w := by
  obtain ⟨hb, hl⟩ := h
  rcases a with _ | ad
  · rcases hl with rfl | ⟨b, off, e, _⟩
    · rw [run_convert_bytes_string w 23 9 5 none _ cap Try.underlying23 Try.underlying5 Try.underlying9]
      simp [Conv.bytesToString]
      rfl
    · cases e
  · have := run_convert_bytes_back (P := Try.prog) w 23 9 5 ad cap (l.map (fun x => UInt8.ofNat x.toNat)) Try.underlying23 Try.underlying5 Try.underlying9 (by
      intro j hj
      have hj' : j < l.length := by simpa using hj
      have hx := hb l[j] (List.getElem_mem hj')
      rcases hl with rfl | ⟨b, off, e, _, hc⟩
      · simp at hj'
      · cases e
        rw [addr_add, hc j hj']
        have e1 : (l[j].toNat % 256 : Nat) = l[j].toNat := by omega
        simp [List.getD, hj', e1, Int.toNat_of_nonneg hx.1])
    rw [List.length_map] at this
    exact this

theorem same_true (a a' : Option Addr) (n n' cap cap' : Nat) (l : List Int) (w : World) (h : IsB w a l) (h' : IsB w a' l) (hn : l.length = n) (hn' : l.length = n') :
    Calls Try.prog 10 #[.slice a n cap, .slice a' n' cap'] w fun e w' => e = .returned (.bool true) ∧ w = w' := by
  subst hn hn'
  have k1 := conv_run w a cap l h
  have k2 := conv_run w a' cap' l h'
  clear h h'
  go_enter Try.func10, Try.ntmps10
  go_wp2
  go_ret
  exact ⟨rfl, rfl⟩

theorem width_any (n : Int) (w : World) :
    Calls Try.prog 36 #[.int .i64 n] w fun e w' => e = .returned (.int .i64 (clampW n)) ∧ w = w' := by
  go_enter Try.func36, Try.ntmps36
  go_wp2
  all_goals (go_ret; refine ⟨congrArg Ending.returned (congrArg (Value.int IntKind.i64) ?_), rfl⟩; unfold clampW; split <;> (try split) <;> omega)

theorem rget_step (l : List Int) (k : Nat) (hk : k < (l.take 8).length) : getL ((l.take 8).drop (k + 1)) * 256 + (l.take 8)[k] = getL ((l.take 8).drop k) := by
  rw [List.drop_eq_getElem_cons hk, getL]
  omega

theorem rget_bd (l : List Int) (k : Nat) (hb : ∀ x ∈ l, 0 ≤ x ∧ x ≤ 255) : 0 ≤ getL ((l.take 8).drop (k + 1)) ∧ getL ((l.take 8).drop (k + 1)) ≤ 72057594037927935 := by
  have hb' : ∀ x ∈ (l.take 8).drop (k + 1), 0 ≤ x ∧ x ≤ 255 := fun x hx => hb x (List.mem_of_mem_take (List.mem_of_mem_drop hx))
  refine ⟨getL_nonneg _ hb', ?_⟩
  have h1 := getL_lt _ hb'
  have h2 : ((l.take 8).drop (k + 1)).length ≤ 7 := by rw [List.length_drop]; have := List.length_take_le 8 l; omega
  have h3 := p256_mono _ _ h2
  have h4 : (256 : Int) ^ 7 = 72057594037927936 := by decide
  omega

set_option maxHeartbeats 1000000 in
theorem rget_any (a : Option Addr) (cap : Nat) (l : List Int) (w : World) (h : IsB w a l) (hm : l.length ≤ maxLen) :
    Calls Try.prog 14 #[.slice a l.length cap] w fun e w' => e = .returned (.int .u64 (getL (l.take 8))) ∧ w = w' := by
  obtain ⟨hb, rfl | ⟨b, off, rfl, hsz, hc⟩⟩ := h
  · go_enter Try.func14, Try.ntmps14
    go_wp2
    refine wp_loop_rounds 1 ?_
    rw [rounds_succ]
    go_wp2
    go_ret
    exact ⟨rfl, rfl⟩
  · unfold maxLen at hm
    have h8 : (l.take 8).length ≤ 8 := List.length_take_le 8 l
    have hl8 : (l.take 8).length ≤ l.length := by rw [List.length_take]; omega
    have E8 : Hid ((l.take 8).length = min 8 l.length) := List.length_take
    go_enter Try.func14, Try.ntmps14
    go_wp2
    all_goals
      go_loop [3, 4] (fun n i => ∃ k : Nat, k ≤ (l.take 8).length ∧ i = .int .i64 ((k : Int) - 1) ∧ n = .int .u64 (getL ((l.take 8).drop k))) (fun _ i => (intOf i + 1).toNat)
      case atStart =>
        refine ⟨(l.take 8).length, Nat.le_refl _, ?_, ?_⟩
        · refine congrArg (Value.int IntKind.i64) ?_
          rw [E8.out]
          omega
        · rw [List.drop_length]; rfl
      case round =>
        obtain ⟨k, hk, rfl, rfl⟩ := hrel
        rcases k with _ | k
        · go_wp2
          go_ret
          exact ⟨rfl, rfl⟩
        · have hkl : k < (l.take 8).length := hk
          have hkl' : k < l.length := by omega
          have hst : Hid (getL ((l.take 8).drop (k + 1)) * 256 + (l.take 8)[k] = getL ((l.take 8).drop k)) := rget_step l k hkl
          obtain ⟨n0, n1⟩ := rget_bd l k hb
          have hx := hb l[k] (List.getElem_mem hkl')
          have hcell := hc k hkl'
          have ek : ((k + 1 : Nat) : Int) - 1 = (k : Int) := by omega
          rw [ek]
          generalize hN : getL ((l.take 8).drop (k + 1)) = N at *
          go_wp2
          go_round
          case rel => exact ⟨k, by omega, rfl, congrArg (Value.int IntKind.u64) (by rw [← hst.out]; simp)⟩
          case measure => simp [intOf]
end Go.Proofs.Ytdhamfhicdcdgaa
