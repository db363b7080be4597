/- What the document's own Shift and Join return. -/
import Derived.Test.YtfojmpcdgkolhaaSumK
import Derived.Deep.RegionHeld3
namespace Go.Proofs.Ytfojmpcdgkolhaa
open Go.RowKit
set_option linter.unusedVariables false

theorem arr_size (g : List Nat) (h : g.length = 32) : (Try.prog.info? 41).map (·.size) = some (cellsN g).size := by
  rw [cellsN_size, h]; exact size_arr

/-- One block that is filled up to k. -/
def Fill1 (w wr : World) (b : Nat) (f : Nat → Nat) (k : Nat) : Prop :=
  w.heap.size ≤ b ∧ wr.heap[b]? = some (.cells (cellsN (partL f k)) 41 (0, 0)) ∧ Below w.heap.size w wr

theorem Fill1.next {w wr : World} {b : Nat} {f : Nat → Nat} {k : Nat} (h : Fill1 w wr b f k) (hk : k < 32) :
    Fill1 w (wr.setCell ⟨b, k, none⟩ (.int .u32 ((f k : Nat) : Int))) b f (k + 1) := by
  obtain ⟨h0, hc, hb⟩ := h
  refine ⟨h0, ?_, hb.setCell h0 _⟩
  rw [row_setCell _ _ _ _ _ _ hc, partL_set f k hk]

theorem Fill1.cell {w wr : World} {b : Nat} {f : Nat → Nat} {k : Nat} (h : Fill1 w wr b f k) (hk : k < 32) :
    (∃ v, wr.cell? ⟨b, k, none⟩ = some v) ∧ wr.frozen? ⟨b, k, none⟩ = false := by
  obtain ⟨h0, hc, hb⟩ := h
  have hl : k < (partL f k).length := by rw [partL_length]; exact hk
  refine ⟨⟨.int .u32 (((partL f k)[k]'hl : Nat) : Int), ?_⟩, row_frozen _ _ _ _ _ hc⟩
  rw [cell_of_row _ _ k _ _ _ hc]
  exact cellsN_at _ k hl

theorem double_bit (k : Nat) (h : k < 32) : (((2 ^ k % 4294967296 : Nat) : Int) * 2) % 4294967296 = ((2 ^ (k + 1) % 4294967296 : Nat) : Int) := by
  rw [Nat.pow_succ]
  generalize 2 ^ k = q
  omega

/-- The document's table of eight steps. -/
def tabF : Nat → Nat := fun i => steps 8 (2 ^ i)

/-- Under way: s behind M n steps more is what is asked for, and the table of M steps lies in the call's first block. -/
def GoesR (w wr : World) (M : Nat) (n : Int) (s all : Nat) : Prop :=
  wr.heap[w.heap.size]? = some (.cells (cellsN (gridL M)) 41 (0, 0)) ∧ s < 4294967296 ∧ steps (M * n.toNat) s = all ∧ Below w.heap.size w wr

theorem exec_load_row {P : Program} {o : Oper} {a : Act} {w : World} (ty : TypeId) (x : Operand) (ho : o.op = .load ty x) (g : Nat) (hx : a.eval x = .pointer (some ⟨g, 0, none⟩)) (t : TypeId) (cs : Array Value) (fr : Nat × Nat) (d : TypeDesc) (hg : w.heap[g]? = some (.cells cs t fr))
    (hu : P.underlying ty = some d) (hd : (match d with | .struct _ | .array _ _ => true | _ => false) = true) (hi : (P.info? ty).map (·.size) = some cs.size) : (execOp a.eval o).run P w = .ok (.value (.agg cs)) w := by
  unfold execOp
  simp only [ho, hx, Instr.loadAt, Instr.sureAddr, Sem.run_bind, Sem.run_pure, Result.andThen_ok, run_loadVar_row w g t ty cs fr d hg hu hd hi]

theorem wpOp_plain {P : Program} {ops : Array Oper} {Q : Exit → Act → World → Prop} {i : Nat} {o : Oper} {a : Act} {w : World} {K : Act → World → Prop} (hi : ops[i]? = some o) (hg : o.guard = none) (h : o.wp P a w K Q) : wpOp P ops Q i K a w := by
  unfold wpOp
  simp only [hi, Region.wanted, hg, if_true]
  exact .inl h

theorem exec_indexAddr_arr {o : Oper} {a : Act} (w : World) (x y : Operand) (ho : o.op = .indexAddr 41 x y) (b k : Nat) (hx : a.eval x = .pointer (some ⟨b, 0, none⟩)) (hy : a.eval y = .int .i64 (k : Int)) (hk : k < 32) : (execOp a.eval o).run Try.prog w = .ok (.value (.pointer (some ⟨b, k, none⟩))) w := by
  unfold execOp
  simp only [ho, hx, hy]
  simp [go_sem, Instr.indexAt, hk]

theorem exec_load_u32 {o : Oper} {a : Act} (w : World) (x : Operand) (ho : o.op = .load 22 x) (b k : Nat) (v : Int) (hx : a.eval x = .pointer (some ⟨b, k, none⟩)) (hc : w.cell? ⟨b, k, none⟩ = some (.int .u32 v)) : (execOp a.eval o).run Try.prog w = .ok (.value (.int .u32 v)) w := by
  unfold execOp
  simp only [ho, hx]
  simp [go_sem, hc, Instr.loadAt]

theorem exec_store_u32 {o : Oper} {a : Act} (w : World) (x y : Operand) (ho : o.op = .store 22 x y) (b k : Nat) (v : Int) (u : Value) (hx : a.eval x = .pointer (some ⟨b, k, none⟩)) (hy : a.eval y = .int .u32 v) (hc : w.cell? ⟨b, k, none⟩ = some u) (hf : w.frozen? ⟨b, k, none⟩ = false) : (execOp a.eval o).run Try.prog w = .ok .skip (w.setCell ⟨b, k, none⟩ (.int .u32 v)) := by
  unfold execOp
  simp only [ho, hx, hy]
  simp [go_sem, hc, hf, Instr.storeAt]

theorem exec_call_lay {o : Oper} {a : Act} (w : World) (x y : Operand) (ho : o.op = .call { callee := .value (.func 23), args := #[x, y], argTypes := #[41, 22] }) (u v : Value) (hx : a.eval x = u) (hy : a.eval y = v) : (execOp a.eval o).run Try.prog w = .ok (.enter 23 #[u, v]) w := by
  have hfe : a.eval (.func 23) = .func (.func 23) #[] #[] := rfl
  unfold execOp
  simp only [ho]
  simp [resolve, invoke, hx, hy, hfe, Deferred.ofValue]

theorem wp_call_lay {o : Oper} {a : Act} {w : World} {K : Act → World → Prop} {Q : Exit → Act → World → Prop} (x y : Operand) (ho : o.op = .call { callee := .value (.func 23), args := #[x, y], argTypes := #[41, 22] }) (g : List Nat) (hg : g.length = 32) (hb : ∀ x ∈ g, x < 4294967296) (m : Nat) (hm : m < 4294967296) (hx : a.eval x = .agg (cellsN g)) (hy : a.eval y = .int .u32 (m : Nat))
    (h : K (a.put o.dst (.int .u32 (layL g m : Nat))) (w.alloc (.cells (cellsN g) 41))) : o.wp Try.prog a w K Q := by
  unfold Oper.wp
  rw [exec_call_lay w x y ho _ _ hx hy, Oper.upon_enter]
  refine (lay_any g hg hb _ m rfl hm w).mono ?_
  rintro e w5 ⟨rfl, rfl⟩
  exact h

theorem wp_store_u32 {o : Oper} {a : Act} {w : World} {K : Act → World → Prop} {Q : Exit → Act → World → Prop} (x y : Operand) (ho : o.op = .store 22 x y) (b k : Nat) (v : Int) (u : Value) (hx : a.eval x = .pointer (some ⟨b, k, none⟩)) (hy : a.eval y = .int .u32 v) (hc : w.cell? ⟨b, k, none⟩ = some u) (hf : w.frozen? ⟨b, k, none⟩ = false)
    (h : K (a.put o.dst undef) (w.setCell ⟨b, k, none⟩ (.int .u32 v))) : o.wp Try.prog a w K Q := by
  unfold Oper.wp
  rw [exec_store_u32 w x y ho b k v u hx hy hc hf, Oper.upon_skip]
  exact h

def op0 : Oper := { dst := some 42, op := Op.move (Operand.tmp 11), type := 3, pos := "ref.go:60", after := #[], guard := none }
def op1 : Oper := { dst := some 43, op := Op.load 41 (Operand.tmp 5), type := 41, pos := "ref.go:60", after := #[], guard := none }
def op2 : Oper := { dst := some 44, op := Op.move (Operand.tmp 11), type := 3, pos := "ref.go:60", after := #[], guard := none }
def op3 : Oper := { dst := some 45, op := Op.indexAddr 41 (Operand.tmp 5) (Operand.tmp 44), type := 0, pos := "ref.go:60", after := #[{ on := 2, ground := Ground.data }], guard := none }
def op4 : Oper := { dst := some 46, op := Op.load 22 (Operand.tmp 45), type := 22, pos := "ref.go:60", after := #[{ on := 3, ground := Ground.data }], guard := none }
def op5 : Oper := { dst := some 47, op := Op.call { callee := Callee.value (Operand.func 23), args := #[Operand.tmp 43, Operand.tmp 46], argTypes := #[41, 22] }, type := 22, pos := "ref.go:60", after := #[{ on := 1, ground := Ground.data }, { on := 4, ground := Ground.data }], guard := none }
def op6 : Oper := { dst := some 48, op := Op.indexAddr 41 (Operand.tmp 10) (Operand.tmp 42), type := 0, pos := "ref.go:60", after := #[{ on := 0, ground := Ground.data }, { on := 0, ground := Ground.phase }, { on := 1, ground := Ground.phase }, { on := 2, ground := Ground.phase }, { on := 3, ground := Ground.phase }, { on := 4, ground := Ground.phase }, { on := 5, ground := Ground.phase }], guard := none }
def op7 : Oper := { dst := none, op := Op.store 22 (Operand.tmp 48) (Operand.tmp 47), type := 0, pos := "ref.go:60", after := #[{ on := 6, ground := Ground.data }, { on := 5, ground := Ground.data }, { on := 5, ground := Ground.chain }, { on := 0, ground := Ground.phase }, { on := 1, ground := Ground.phase }, { on := 2, ground := Ground.phase }, { on := 3, ground := Ground.phase }, { on := 4, ground := Ground.phase }, { on := 5, ground := Ground.phase }], guard := none }

/-- The table is being squared: it lies in the call's first block, its square, up to k, in block b. -/
def Sq (w wq : World) (b M k : Nat) : Prop :=
  wq.heap[w.heap.size]? = some (.cells (cellsN (gridL M)) 41 (0, 0)) ∧ Fill1 w wq b (fun i => steps (M + M) (2 ^ i)) k

theorem Sq.drew {w wq : World} {b M k : Nat} (h : Sq w wq b M k) : Sq w { wq with drawn := wq.drawn + 1 } b M k :=
  ⟨h.1, h.2.1, h.2.2.1, Below.drew h.2.2.2⟩

theorem Sq.alloc {w wq : World} {b M k : Nat} (h : Sq w wq b M k) (o : Obj) : Sq w (wq.alloc o) b M k := by
  obtain ⟨h1, h2, h3, h4⟩ := h
  exact ⟨by rw [Below.heap_alloc _ _ _ (row_lt _ _ _ h1)]; exact h1, h2, by rw [Below.heap_alloc _ _ _ (row_lt _ _ _ h3)]; exact h3, h4.alloc h4.size _⟩

theorem Sq.next {w wq : World} {b M k : Nat} (h : Sq w wq b M k) (hb : w.heap.size < b) (hk : k < 32) : Sq w (wq.setCell ⟨b, k, none⟩ (.int .u32 (steps (M + M) (2 ^ k) : Nat))) b M (k + 1) :=
  ⟨by rw [Below.heap_setCell _ _ _ _ (by show w.heap.size ≠ b; omega)]; exact h.1, h.2.next hk⟩

set_option maxRecDepth 100000 in
set_option maxHeartbeats 1000000 in
theorem rshift_any (x : Int) (m : Nat) (e : x = m) (h : m < 4294967296) (n : Int) (hn : n ≤ 9223372036854775807) (w : World) :
    Calls Try.prog 15 #[.int .u32 x, .int .i64 n] w fun e w' => e = .returned (.int .u32 (steps (8 * n.toNat) m : Nat)) ∧ Below w.heap.size w w' := by
  subst e
  go_enter Try.func15, Try.ntmps15
  go_wp2
  rw [zeroes]
  go_loopw [6, 7] (fun ov iv wr => ∃ (k : Nat), k ≤ 32 ∧ ov = .int .u32 ((2 ^ k % 4294967296 : Nat) : Int) ∧ iv = .int .i64 k ∧ Fill1 w wr w.heap.size tabF k) (fun _ iv _ => 32 - (intOf iv).toNat)
  case atStart => exact ⟨0, by omega, rfl, rfl, Nat.le_refl _, by rw [partL_none]; exact heap_alloc_new _ _, (Below.refl _ w).alloc (Nat.le_refl _) _⟩
  case round =>
    obtain ⟨k, hk, rfl, rfl, hF⟩ := hrel
    have F : Hid (Fill1 w _ w.heap.size tabF k) := hF
    by_cases h32 : k < 32
    · obtain ⟨⟨v, hcell⟩, hfr⟩ := hF.cell h32
      clear hF
      have hp : 2 ^ k < 4294967296 := by
        have : 2 ^ k < 2 ^ 32 := Nat.pow_lt_pow_right (by decide) h32
        exact this
      have hpm : 2 ^ k % 4294967296 = 2 ^ k := Nat.mod_eq_of_lt hp
      obtain ⟨z, hz⟩ : ∃ z, 2 ^ k % 4294967296 = z := ⟨_, rfl⟩
      have D : Hid ((((2 ^ k % 4294967296 : Nat) : Int) * 2) % 4294967296 = ((2 ^ (k + 1) % 4294967296 : Nat) : Int)) := double_bit k h32
      have Z : Hid (2 ^ k % 4294967296 = z) := hz
      have Z2 : Hid (2 ^ k = z) := by show _ = _; omega
      have zlt : z < 4294967296 := by omega
      rw [hz]
      clear hz hpm hp
      have hd : decide ((k : Int) < 32) = true := by simp; omega
      go_wp2
      try rw [hd]
      go_loopw [8, 9] (fun xv jv wq => ∃ (j : Nat), j ≤ 8 ∧ xv = .int .u32 (steps j z : Nat) ∧ jv = .int .i64 j ∧ Fill1 w wq w.heap.size tabF k) (fun _ jv _ => 8 - (intOf jv).toNat)
      case atStart => exact ⟨0, by omega, rfl, rfl, F.out⟩
      case round =>
        clear F hcell hfr
        obtain ⟨j, hj, rfl, rfl, hF⟩ := hrel
        have F : Hid (Fill1 w _ w.heap.size tabF k) := hF
        obtain ⟨⟨v, hcell⟩, hfr⟩ := hF.cell h32
        clear hF
        by_cases h8 : j < 8
        · have hsl := steps_lt j z zlt
          go_wp2_with fail
          refine (rstep_any _ (steps j z) rfl hsl _).mono ?_
          rintro e w5 ⟨rfl, rfl⟩
          go_wp2
          go_roundw
          case rel => exact ⟨j + 1, by omega, by rw [steps_one], by go_num, F.out⟩
          case measure => simp [intOf]; omega
        · obtain rfl : j = 8 := by omega
          go_wp2
          go_roundw
          case rel =>
            refine ⟨k + 1, by omega, ?_, by go_num, ?_⟩
            · rw [← D.out, Z.out]
            · rw [← Z2.out]; exact F.out.next h32
          case measure => simp [intOf]; omega
    · obtain rfl : k = 32 := by omega
      clear F
      obtain ⟨h0, hc, hb⟩ := hF
      rw [show partL tabF 32 = gridL 8 from partL_all 8] at hc
      go_wp2
      have G0 : Hid (GoesR w _ 8 n m (steps (8 * n.toNat) m)) := ⟨hc, h, rfl, hb⟩
      clear h0 hc hb h32 hk
      rw [show ((2 ^ 32 % 4294967296 : Nat) : Int) = 0 from rfl, show ((32 : Nat) : Int) = 32 from rfl]
      go_loopw [0, 1] (fun sv nv wr => ∃ (M : Nat) (n' : Int) (s' : Nat), n' ≤ 9223372036854775807 ∧ sv = .int .u32 s' ∧ nv = .int .i64 n' ∧ GoesR w wr M n' s' (steps (8 * n.toNat) m)) (fun _ nv _ => (intOf nv).toNat)
      case atStart => exact ⟨8, n, m, hn, rfl, rfl, G0.out⟩
      case round =>
        obtain ⟨M, n', s', hn', rfl, rfl, hG⟩ := hrel
        obtain ⟨hrow, hs', hall, hbel⟩ := hG
        have ALL : Hid (steps (M * n'.toNat) s' = steps (8 * n.toNat) m) := hall
        clear hall G0
        by_cases hpos : 0 < n'
        · obtain ⟨q, rfl⟩ : ∃ q : Nat, n' = q := ⟨n'.toNat, by omega⟩
          have hd : decide (0 < q) = true := by simp; omega
          rcases Nat.mod_two_eq_zero_or_one q with ho | ho
          · have ht : (q : Int).tmod 2 = 0 := by rw [tmod_two, ho]; rfl
            go_wp2
            rw [zeroes]
            obtain ⟨U, hUe⟩ : ∃ U, wr.heap.size = U := ⟨_, rfl⟩
            have S0 : Hid (Sq w _ wr.heap.size M 0) := ⟨(Below.heap_alloc _ (.cells (cellsN (List.replicate 32 0)) 41) _ (row_lt _ _ _ hrow)).trans hrow, hbel.size, by rw [partL_none]; exact heap_alloc_new _ _, hbel.alloc hbel.size _⟩
            rw [hUe] at S0 ⊢
            have UE : Hid (wr.heap.size = U) := hUe
            have UG : Hid (w.heap.size < U) := by have := row_lt _ _ _ hrow; show _ < _; omega
            clear hUe
            go_loopw [11] (fun iv wq => ∃ (k : Nat), k ≤ 32 ∧ iv = .int .i64 k ∧ Sq w wq U M k) (fun iv _ => 32 - (intOf iv).toNat)
            case atStart => exact ⟨0, by omega, rfl, S0.out⟩
            case round =>
              clear S0
              obtain ⟨k, hk, rfl, hS⟩ := hrel
              by_cases h32 : k < 32
              · have hd2 : decide ((k : Int) < 32) = true := by simp; omega
                have SS : Hid (Sq w _ U M k) := hS
                clear hS
                have hgk : steps M (2 ^ k) < 4294967296 := bit_lt M k h32
                go_wp2_with fail
                refine wp_region_held (S := fun wz => wz.heap[w.heap.size]? = some (.cells (cellsN (gridL M)) 41 (0, 0))) (by kernel_rfl) ?_
                refine wpAnyH_take (i := 0) (oi := op0) (v := .int .i64 k) rfl (by kernel_rfl) (by kernel_rfl) (by kernel_rfl) (fun _ _ _ h => h) (.inl ⟨rfl, fun _ _ => rfl⟩) SS.out.1 ?_
                simp only [op0, Act.put, List.setIfInBounds_toArray, List.set_cons_succ, List.set_cons_zero]
                refine wpAnyH_take (i := 1) (oi := op1) (v := .agg (cellsN (gridL M))) rfl (by kernel_rfl) (by kernel_rfl) (by kernel_rfl) (fun _ _ _ h => h) (.inl ⟨rfl, fun wz hz => exec_load_row 41 _ rfl w.heap.size rfl 41 (cellsN (gridL M)) (0, 0) _ hz Try.underlying41 rfl (arr_size _ (gridL_length _))⟩) SS.out.1 ?_
                simp only [op1, Act.put, List.setIfInBounds_toArray, List.set_cons_succ, List.set_cons_zero]
                refine wpAnyH_take (i := 2) (oi := op2) (v := .int .i64 k) rfl (by kernel_rfl) (by kernel_rfl) (by kernel_rfl) (fun _ _ _ h => h) (.inl ⟨rfl, fun _ _ => rfl⟩) SS.out.1 ?_
                simp only [op2, Act.put, List.setIfInBounds_toArray, List.set_cons_succ, List.set_cons_zero]
                refine wpAnyH_take (i := 3) (oi := op3) (v := .pointer (some ⟨w.heap.size, k, none⟩)) rfl (by kernel_rfl) (by kernel_rfl) (by kernel_rfl) (fun _ _ _ h => h) (.inl ⟨rfl, fun wz hz => exec_indexAddr_arr wz _ _ rfl w.heap.size k rfl rfl h32⟩) SS.out.1 ?_
                simp only [op3, Act.put, List.setIfInBounds_toArray, List.set_cons_succ, List.set_cons_zero]
                refine wpAnyH_take (i := 4) (oi := op4) (v := .int .u32 (steps M (2 ^ k) : Nat)) rfl (by kernel_rfl) (by kernel_rfl) (by kernel_rfl) (fun _ _ _ h => h) (.inl ⟨rfl, fun wz hz => exec_load_u32 wz _ rfl w.heap.size k _ rfl (by rw [cell_of_row _ _ k _ _ _ hz, cellsN_at _ k (by rw [gridL_length]; exact h32), gridL_get])⟩) SS.out.1 ?_
                simp only [op4, Act.put, List.setIfInBounds_toArray, List.set_cons_succ, List.set_cons_zero]
                refine wpAnyH_all (rs := [5]) (by kernel_rfl) (by simp) ?_
                intro i hi
                obtain rfl : i = 5 := by simpa using hi
                refine wpOp_plain (o := op5) rfl rfl ?_
                refine wp_call_lay _ _ rfl (gridL M) (gridL_length M) (gridL_lt M) (steps M (2 ^ k)) hgk rfl rfl ?_
                simp only [op5, Act.put, List.setIfInBounds_toArray, List.set_cons_succ, List.set_cons_zero]
                rw [lay_grid M _ hgk, grid_twice M k h32]
                have S5 := SS.out.drew.alloc (.cells (cellsN (gridL M)) 41)
                refine ⟨S5.1, ?_⟩
                obtain ⟨⟨v, hcell⟩, hfr⟩ := S5.2.cell h32
                refine wpAnyH_take (i := 6) (oi := op6) (v := .pointer (some ⟨U, k, none⟩)) rfl (by kernel_rfl) (by kernel_rfl) (by kernel_rfl) (fun _ _ _ h => h) (.inl ⟨rfl, fun wz hz => exec_indexAddr_arr wz _ _ rfl U k rfl rfl h32⟩) S5.1 ?_
                simp only [op6, Act.put, List.setIfInBounds_toArray, List.set_cons_succ, List.set_cons_zero]
                refine wpAnyH_all (rs := [7]) (by kernel_rfl) (by simp) ?_
                intro i hi
                obtain rfl : i = 7 := by simpa using hi
                refine wpOp_plain (o := op7) rfl rfl ?_
                refine wp_store_u32 _ _ rfl U k (steps (M + M) (2 ^ k) : Nat) v rfl rfl hcell hfr ?_
                have S6 := S5.next UG.out h32
                refine ⟨S6.1, wpAnyH_done (by kernel_rfl) ?_ _⟩
                have SSS : Hid (Sq w _ U M (k + 1)) := S6
                clear S5 S6 hcell hfr SS
                simp only [op7, Act.put]
                generalize World.setCell _ _ _ = wz at SSS ⊢
                go_wp2
                go_roundw
                case rel => exact ⟨k + 1, by omega, by go_num, SSS.out⟩
                case measure => simp [intOf]; omega
              · obtain rfl : k = 32 := by omega
                obtain ⟨hT, hU0, hU, hB⟩ := hS
                rw [partL_all] at hU
                go_wp2_with (first
                  | (refine wpList_load_row rfl 41 _ rfl _ rfl 41 (cellsN (gridL (M + M))) (0, 0) _ hU Try.underlying41 rfl (arr_size _ (gridL_length _)) ?_; simp only [Act.put, List.setIfInBounds_toArray, List.set_cons_succ, List.set_cons_zero])
                  | (refine wpList_store_row rfl 41 _ _ rfl w.heap.size (cellsN (gridL (M + M))) rfl rfl 41 (cellsN (gridL M)) hT (arr_size _ (gridL_length _)) (by rw [cellsN_size, cellsN_size, gridL_length, gridL_length]) (cellsN_one _) ?_; simp only [Act.put]))
                go_roundw
                case rel => exact ⟨M + M, ((q / 2 : Nat) : Int), s', by omega, rfl, by go_num, setRow_same _ _ _ _ _ hT, hs', by rw [← ALL.out, Int.toNat_natCast, Int.toNat_natCast]; exact (shift_even M q s' ho).symm, below_setRow hB (Nat.le_refl _) _⟩
                case measure => simp [intOf]; omega
          · have ht : (q : Int).tmod 2 = 1 := by rw [tmod_two, ho]; rfl
            go_wp2_with (refine wpList_load_row rfl 41 _ rfl w.heap.size rfl 41 (cellsN (gridL M)) (0, 0) _ hrow Try.underlying41 rfl (arr_size _ (gridL_length _)) ?_)
            refine (lay_any (gridL M) (gridL_length M) (gridL_lt M) _ s' rfl hs' _).mono ?_
            rintro e w3 ⟨rfl, hw3⟩
            rw [lay_grid M s' hs']
            have hrow3 : w3.heap[w.heap.size]? = some (.cells (cellsN (gridL M)) 41 (0, 0)) := by rw [hw3]; exact (Below.heap_alloc _ (.cells (cellsN (gridL M)) 41) _ (row_lt _ _ _ hrow)).trans hrow
            have hbel3 : Below w.heap.size w w3 := by rw [hw3]; exact hbel.alloc hbel.size _
            clear hw3 hrow hbel
            go_wp2
            rw [zeroes]
            obtain ⟨U, hUe⟩ : ∃ U, w3.heap.size = U := ⟨_, rfl⟩
            have S0 : Hid (Sq w _ w3.heap.size M 0) := ⟨(Below.heap_alloc _ (.cells (cellsN (List.replicate 32 0)) 41) _ (row_lt _ _ _ hrow3)).trans hrow3, hbel3.size, by rw [partL_none]; exact heap_alloc_new _ _, hbel3.alloc hbel3.size _⟩
            rw [hUe] at S0 ⊢
            have UE : Hid (w3.heap.size = U) := hUe
            have UG : Hid (w.heap.size < U) := by have := row_lt _ _ _ hrow3; show _ < _; omega
            clear hUe
            go_loopw [11] (fun iv wq => ∃ (k : Nat), k ≤ 32 ∧ iv = .int .i64 k ∧ Sq w wq U M k) (fun iv _ => 32 - (intOf iv).toNat)
            case atStart => exact ⟨0, by omega, rfl, S0.out⟩
            case round =>
              clear S0
              obtain ⟨k, hk, rfl, hS⟩ := hrel
              by_cases h32 : k < 32
              · have hd2 : decide ((k : Int) < 32) = true := by simp; omega
                have SS : Hid (Sq w _ U M k) := hS
                clear hS
                have hgk : steps M (2 ^ k) < 4294967296 := bit_lt M k h32
                go_wp2_with fail
                refine wp_region_held (S := fun wz => wz.heap[w.heap.size]? = some (.cells (cellsN (gridL M)) 41 (0, 0))) (by kernel_rfl) ?_
                refine wpAnyH_take (i := 0) (oi := op0) (v := .int .i64 k) rfl (by kernel_rfl) (by kernel_rfl) (by kernel_rfl) (fun _ _ _ h => h) (.inl ⟨rfl, fun _ _ => rfl⟩) SS.out.1 ?_
                simp only [op0, Act.put, List.setIfInBounds_toArray, List.set_cons_succ, List.set_cons_zero]
                refine wpAnyH_take (i := 1) (oi := op1) (v := .agg (cellsN (gridL M))) rfl (by kernel_rfl) (by kernel_rfl) (by kernel_rfl) (fun _ _ _ h => h) (.inl ⟨rfl, fun wz hz => exec_load_row 41 _ rfl w.heap.size rfl 41 (cellsN (gridL M)) (0, 0) _ hz Try.underlying41 rfl (arr_size _ (gridL_length _))⟩) SS.out.1 ?_
                simp only [op1, Act.put, List.setIfInBounds_toArray, List.set_cons_succ, List.set_cons_zero]
                refine wpAnyH_take (i := 2) (oi := op2) (v := .int .i64 k) rfl (by kernel_rfl) (by kernel_rfl) (by kernel_rfl) (fun _ _ _ h => h) (.inl ⟨rfl, fun _ _ => rfl⟩) SS.out.1 ?_
                simp only [op2, Act.put, List.setIfInBounds_toArray, List.set_cons_succ, List.set_cons_zero]
                refine wpAnyH_take (i := 3) (oi := op3) (v := .pointer (some ⟨w.heap.size, k, none⟩)) rfl (by kernel_rfl) (by kernel_rfl) (by kernel_rfl) (fun _ _ _ h => h) (.inl ⟨rfl, fun wz hz => exec_indexAddr_arr wz _ _ rfl w.heap.size k rfl rfl h32⟩) SS.out.1 ?_
                simp only [op3, Act.put, List.setIfInBounds_toArray, List.set_cons_succ, List.set_cons_zero]
                refine wpAnyH_take (i := 4) (oi := op4) (v := .int .u32 (steps M (2 ^ k) : Nat)) rfl (by kernel_rfl) (by kernel_rfl) (by kernel_rfl) (fun _ _ _ h => h) (.inl ⟨rfl, fun wz hz => exec_load_u32 wz _ rfl w.heap.size k _ rfl (by rw [cell_of_row _ _ k _ _ _ hz, cellsN_at _ k (by rw [gridL_length]; exact h32), gridL_get])⟩) SS.out.1 ?_
                simp only [op4, Act.put, List.setIfInBounds_toArray, List.set_cons_succ, List.set_cons_zero]
                refine wpAnyH_all (rs := [5]) (by kernel_rfl) (by simp) ?_
                intro i hi
                obtain rfl : i = 5 := by simpa using hi
                refine wpOp_plain (o := op5) rfl rfl ?_
                refine wp_call_lay _ _ rfl (gridL M) (gridL_length M) (gridL_lt M) (steps M (2 ^ k)) hgk rfl rfl ?_
                simp only [op5, Act.put, List.setIfInBounds_toArray, List.set_cons_succ, List.set_cons_zero]
                rw [lay_grid M _ hgk, grid_twice M k h32]
                have S5 := SS.out.drew.alloc (.cells (cellsN (gridL M)) 41)
                refine ⟨S5.1, ?_⟩
                obtain ⟨⟨v, hcell⟩, hfr⟩ := S5.2.cell h32
                refine wpAnyH_take (i := 6) (oi := op6) (v := .pointer (some ⟨U, k, none⟩)) rfl (by kernel_rfl) (by kernel_rfl) (by kernel_rfl) (fun _ _ _ h => h) (.inl ⟨rfl, fun wz hz => exec_indexAddr_arr wz _ _ rfl U k rfl rfl h32⟩) S5.1 ?_
                simp only [op6, Act.put, List.setIfInBounds_toArray, List.set_cons_succ, List.set_cons_zero]
                refine wpAnyH_all (rs := [7]) (by kernel_rfl) (by simp) ?_
                intro i hi
                obtain rfl : i = 7 := by simpa using hi
                refine wpOp_plain (o := op7) rfl rfl ?_
                refine wp_store_u32 _ _ rfl U k (steps (M + M) (2 ^ k) : Nat) v rfl rfl hcell hfr ?_
                have S6 := S5.next UG.out h32
                refine ⟨S6.1, wpAnyH_done (by kernel_rfl) ?_ _⟩
                have SSS : Hid (Sq w _ U M (k + 1)) := S6
                clear S5 S6 hcell hfr SS
                simp only [op7, Act.put]
                generalize World.setCell _ _ _ = wz at SSS ⊢
                go_wp2
                go_roundw
                case rel => exact ⟨k + 1, by omega, by go_num, SSS.out⟩
                case measure => simp [intOf]; omega
              · obtain rfl : k = 32 := by omega
                obtain ⟨hT, hU0, hU, hB⟩ := hS
                rw [partL_all] at hU
                go_wp2_with (first
                  | (refine wpList_load_row rfl 41 _ rfl _ rfl 41 (cellsN (gridL (M + M))) (0, 0) _ hU Try.underlying41 rfl (arr_size _ (gridL_length _)) ?_; simp only [Act.put, List.setIfInBounds_toArray, List.set_cons_succ, List.set_cons_zero])
                  | (refine wpList_store_row rfl 41 _ _ rfl w.heap.size (cellsN (gridL (M + M))) rfl rfl 41 (cellsN (gridL M)) hT (arr_size _ (gridL_length _)) (by rw [cellsN_size, cellsN_size, gridL_length, gridL_length]) (cellsN_one _) ?_; simp only [Act.put]))
                go_roundw
                case rel => exact ⟨M + M, ((q / 2 : Nat) : Int), steps M s', by omega, rfl, by go_num, setRow_same _ _ _ _ _ hT, steps_lt _ _ hs', by rw [← ALL.out, Int.toNat_natCast, Int.toNat_natCast]; exact (shift_odd M q s' ho).symm, below_setRow hB (Nat.le_refl _) _⟩
                case measure => simp [intOf]; omega
        · go_wp2
          go_ret
          have := ALL.out
          rw [show n'.toNat = 0 from by omega, Nat.mul_zero] at this
          exact ⟨ret_int (by rw [← this]; rfl), hbel⟩

theorem rjoin_any (x y : Int) (a b : Nat) (ea : x = a) (eb : y = b) (ha : a < 4294967296) (hb : b < 4294967296) (n : Int) (hn : n ≤ 9223372036854775807) (w : World) :
    Calls Try.prog 17 #[.int .u32 x, .int .u32 y, .int .i64 n] w fun e w' => e = .returned (.int .u32 ((steps (8 * n.toNat) a ^^^ b : Nat) : Int)) ∧ Below w.heap.size w w' := by
  subst ea eb
  have X : Hid (bits BinOp.xor IntKind.u32 ((steps (8 * n.toNat) a : Nat) : Int) (b : Int) = ((steps (8 * n.toNat) a ^^^ b : Nat) : Int)) := u32_xor_nat _ _ (steps_lt _ _ ha) hb
  go_enter Try.func17, Try.ntmps17
  go_wp2_with fail
  refine (rshift_any _ a rfl ha n hn w).mono ?_
  rintro e w1 ⟨rfl, hb1⟩
  go_wp2
  go_ret
  exact ⟨ret_int X.out, hb1⟩
end Go.Proofs.Ytfojmpcdgkolhaa
