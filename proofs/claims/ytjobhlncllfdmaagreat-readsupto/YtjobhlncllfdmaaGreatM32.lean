/- slices.Repeat of one 1. -/
import Derived.Test.YtjobhlncllfdmaaGreatM18
import Derived.Test.YtjobhlncllfdmaaGreatM11
import Derived.Test.YtjobhlncllfdmaaGreatM31
import Derived.Laws.CopyRow
import Derived.Deep.RegionLaw
namespace Go.Proofs.YtjobhlncllfdmaaGreat
open Go.RowKit

theorem wpList_copy_eq {P : Program} {w : World} {ops : Array Oper} {rest : List Oper} {o : Oper} {a : Act} {Q : Exit → Act → World → Prop} (hgd : o.guard = none) (d s : Operand) (t t' : TypeId)
    (ho : o.op = .call { callee := .builtin .copy, args := #[d, s], argTypes := #[t, t'] }) (v u : Value) (hd : a.eval d = v) (hs : a.eval s = u) {v' : Value} {w' : World}
    (hr : (Builtin.copy_ #[t, t'] o.type #[v, u]).run P w = .ok v' w') (h : wpList P ops Q rest (a.put o.dst v') w') : wpList P ops Q (o :: rest) a w :=
  wpList_plain hgd fun _ hK => by
    unfold Oper.wp execOp
    simp only [ho, resolve, invoke, builtin, Sem.run_bind, Sem.run_pure, Result.andThen_ok, List.map_toArray, List.map_cons, List.map_nil, hd, hs, hr]
    exact hK _ _ h
theorem step_copy_eq {P : Program} {ops : Array Oper} {o : Oper} {a : Act} {w : World} {K : Act → World → Prop} {Q : Exit → Act → World → Prop} {E : Prop}
    (hg : o.guard = none) (d x : Operand) (dT sT : TypeId) (hop : o.op = Op.call { callee := Callee.builtin Builtin.copy, args := #[d, x], argTypes := #[dT, sT] })
    (v u : Value) (hd : a.eval d = v) (hx : a.eval x = u) {v' : Value} {w' : World} (hr : (Builtin.copy_ #[dT, sT] o.type #[v, u]).run P w = .ok v' w') (hK : K (a.put o.dst v') w') :
    if Region.wanted o (yielded ops a.tmps) = true then Oper.wp P o a w K Q else E := by
  have hw : Region.wanted o (yielded ops a.tmps) = true := by simp [Region.wanted, hg]
  rw [if_pos hw]
  unfold Oper.wp execOp
  simp only [hop, resolve, invoke, builtin, Sem.run_bind, Sem.run_pure, Result.andThen_ok, List.map_toArray, List.map_cons, List.map_nil, hd, hx, hr]
  exact hK

theorem and_mask (n : Nat) (h : n < 4294967296) : bits .and .u64 (n : Int) 4294967295 = (n : Int) := by
  have := u64_and_nat n 4294967295 (by omega) (by omega)
  rw [show (4294967295 : Nat) = 2 ^ 32 - 1 from rfl, Nat.and_two_pow_sub_one_eq_mod n 32, Nat.mod_eq_of_lt (by omega)] at this
  exact this

set_option maxHeartbeats 4000000 in
set_option maxRecDepth 100000 in
theorem mul64_one (n : Nat) (w : World) (hn : n ≤ 100000) :
    Calls Tryz.prog 109 #[.int .u64 1, .int .u64 (n : Int)] w fun e w' => e = .returned (.tuple #[.int .u64 0, .int .u64 (n : Int)]) ∧ w' = w := by
  have h1 : bits .and .u64 1 4294967295 = 1 := and_mask 1 (by omega)
  have h2 := and_mask n (by omega)
  have h3 : bits .and .u64 0 4294967295 = 0 := and_mask 0 (by omega)
  have h4 : (n : Int) / 4294967296 = 0 := by omega
  go_enter Tryz.func109, Tryz.ntmps109
  go_wp2
  go_ret2
  exact ⟨rfl, rfl⟩

set_option maxHeartbeats 4000000 in
set_option maxRecDepth 100000 in
theorem mul_one' (n : Nat) (w : World) (hn : n ≤ 100000) :
    Calls Tryz.prog 104 #[.int .u64 1, .int .u64 (n : Int)] w fun e w' => e = .returned (.tuple #[.int .u64 0, .int .u64 (n : Int)]) ∧ w' = w := by
  go_enter Tryz.func104, Tryz.ntmps104
  go_wp2_with fail
  refine (mul64_one n w hn).mono ?_
  rintro e w' ⟨rfl, hw'⟩
  subst w'
  go_wp2
  go_ret2
  exact ⟨rfl, rfl⟩

theorem make_intsN (n : Nat) (hn : n ≤ 100000) : ∃ cs : Array Value, cs.size = n ∧ ∀ w2 : World, (Instr.makeSlice 27 (.int .i64 (n : Int)) (.int .i64 (n : Int))).run Tryz.prog w2 = .ok (.slice (some ⟨w2.heap.size, 0, none⟩) n n) (w2.alloc (.cells cs 3)) := by
  obtain ⟨i0, hi, hz0, hz1, hz2⟩ := info_parts Tryz.info3
  refine ⟨madeCells (Value.int .i64 0).cells (n * i0.size), ?_, fun w2 => ?_⟩
  · rw [size_madeCells, hz1, Nat.mul_one]
  · have := run_make (P := Tryz.prog) w2 27 3 i0 (.int .i64 0) Tryz.underlying27 hi hz0 .i64 .i64 n n (by omega) (by omega) (by rw [hz2]; omega) (by omega)
    simpa using this

theorem size3 : (Tryz.prog.info? 3).map (·.size) = some 1 := by kernel_rfl

def one1 : Value := .int .i64 1
theorem ints_rep (n : Nat) : ints (List.replicate n 1) = List.replicate n one1 := by simp [ints, one1]

/-- the first k of a row of n are 1 -/
def Ones (W : World) (g n k : Nat) : Prop := ∃ cur : Array Value, W.heap[g]? = some (.cells cur 3 (0, 0)) ∧ cur.size = n ∧ cur.toList.take k = List.replicate k one1

/-- some more of them are copied behind them -/
theorem ones_copy {W : World} {g n k m : Nat} (h : Ones W g n k) (hk : k ≤ n) (hm : m = min k (n - k)) :
    ∃ W', (Builtin.copy_ #[27, 27] 3 #[.slice (some ⟨g, k, none⟩) (n - k) (n - k), .slice (some ⟨g, 0, none⟩) k n]).run Tryz.prog W = .ok (.int .i64 (m : Int)) W' ∧ Ones W' g n (k + m) ∧ (∀ j, j ≠ g → W'.heap[j]? = W.heap[j]?) ∧ W'.heap.size = W.heap.size ∧ ∀ B w, B ≤ g → Below B w W → Below B w W' := by
  obtain ⟨cur, h1, h2, h3⟩ := h
  have hrow : ∀ j v, (List.replicate m one1)[j]? = some v → W.cell? ((⟨g, 0, none⟩ : Addr).add j) = some v := fun j v hv => by
    have hj : j < m := by have := (List.getElem?_eq_some_iff.1 hv).1; simpa using this
    have hv1 : v = one1 := by rw [List.getElem?_replicate, if_pos hj] at hv; simpa using hv.symm
    rw [show (⟨g, 0, none⟩ : Addr).add j = ⟨g, j, none⟩ from by unfold Addr.add; split <;> simp_all, cell_of_row _ _ _ _ _ _ h1]
    have : (cur.toList.take k)[j]? = some one1 := by rw [h3, List.getElem?_replicate, if_pos (by omega)]
    rw [List.getElem?_take_of_lt (by omega)] at this
    rw [hv1, ← Array.getElem?_toList]
    exact this
  have hr := run_copy_row (P := Tryz.prog) W 27 27 3 3 g k (n - k) (n - k) ⟨g, 0, none⟩ k n cur 3 (List.replicate m one1) Tryz.underlying27 size3 h1 (by rw [List.length_replicate, hm]) hrow (by rw [List.length_replicate]; omega) (fun v hv => by rw [List.eq_of_mem_replicate hv]; rfl)
  rw [List.length_replicate] at hr
  refine ⟨_, hr, ⟨_, setRow_heap W g cur _ 3 _ h1, ?_, ?_⟩, fun j hj => setRow_other W g j _ hj, by simp, fun B w hB hb => ?_⟩
  · simp only [List.size_toArray, List.length_append, List.length_take, List.length_drop, List.length_replicate, Array.length_toList]
    omega
  · rw [h3, List.replicate_append_replicate]
    rw [List.take_append_of_le_length (by simp), List.take_of_length_le (by simp)]
  · exact ⟨hb.os, hb.tape, hb.output, by simp; exact hb.size, fun k hk => by rw [setRow_other W g k _ (by omega)]; exact hb.block k hk⟩

set_option maxHeartbeats 4000000 in
set_option maxRecDepth 100000 in
theorem repeat_any (g0 n : Nat) (w : World) (hc : w.cell? ⟨g0, 0, none⟩ = some (.int .i64 1)) (hg0 : g0 < w.heap.size) (hn : n ≤ 100000) :
    Calls Tryz.prog 94 #[.slice (some ⟨g0, 0, none⟩) 1 1, .int .i64 (n : Int)] w fun e w' => ∃ v, e = .returned v ∧ w'.ownsRow w.heap.size 3 1 v n (ints (List.replicate n 1)) ∧ Below w.heap.size w w' := by
  have ML : Hid (Calls Tryz.prog 104 #[.int .u64 1, .int .u64 (n : Int)] w fun e w' => e = .returned (.tuple #[.int .u64 0, .int .u64 (n : Int)]) ∧ w' = w) := mul_one' n w hn
  obtain ⟨cs, hcs, hmk⟩ := make_intsN n hn
  have hnew : (w.alloc (.cells cs 3)).heap[w.heap.size]? = some (.cells cs 3 (0, 0)) := heap_alloc_new w _
  -- the first copy
  obtain ⟨m, hm⟩ : ∃ m, m = min 1 n := ⟨_, rfl⟩
  have hrow : ∀ j v, (List.replicate m one1)[j]? = some v → (w.alloc (.cells cs 3)).cell? ((⟨g0, 0, none⟩ : Addr).add j) = some v := fun j v hv => by
    have hj : j < m := by have := (List.getElem?_eq_some_iff.1 hv).1; simpa using this
    have hv1 : v = one1 := by rw [List.getElem?_replicate, if_pos hj] at hv; simpa using hv.symm
    have hj0 : j = 0 := by omega
    subst hj0
    rw [show (⟨g0, 0, none⟩ : Addr).add 0 = ⟨g0, 0, none⟩ from by unfold Addr.add; split <;> simp_all, hv1, World.cell?_of_block (w := w) (Below.heap_alloc _ _ _ hg0)]
    exact hc
  have hr := run_copy_row (P := Tryz.prog) (w.alloc (.cells cs 3)) 27 27 3 3 w.heap.size 0 n n ⟨g0, 0, none⟩ 1 1 cs 3 (List.replicate m one1) Tryz.underlying27 size3 hnew (by rw [List.length_replicate, hm]) hrow (by rw [List.length_replicate]; omega) (fun v hv => by rw [List.eq_of_mem_replicate hv]; rfl)
  rw [List.length_replicate] at hr
  obtain ⟨W1, hW1⟩ : ∃ W1, W1 = (w.alloc (.cells cs 3)).setRow w.heap.size (cs.toList.take 0 ++ List.replicate m one1 ++ cs.toList.drop (0 + m)).toArray := ⟨_, rfl⟩
  rw [← hW1] at hr
  have RC : Hid ((Builtin.copy_ #[27, 27] 3 #[.slice (some ⟨w.heap.size, 0, none⟩) n n, .slice (some ⟨g0, 0, none⟩) 1 1]).run Tryz.prog (w.alloc (.cells cs 3)) = .ok (.int .i64 (m : Int)) W1) := hr
  have HO : Hid (Ones W1 w.heap.size n m) := by
    refine ⟨_, by rw [hW1]; exact setRow_heap _ _ cs _ 3 _ hnew, ?_, ?_⟩
    · simp only [List.take_zero, List.nil_append, List.size_toArray, List.length_append, List.length_drop, List.length_replicate, Array.length_toList]
      omega
    · simp only [List.take_zero, List.nil_append]
      rw [List.take_append_of_le_length (by simp), List.take_of_length_le (by simp)]
  have HB : Hid (Below w.heap.size w W1) := by
    have hb := bbox w (.cells cs 3)
    rw [hW1]
    exact ⟨hb.os, hb.tape, hb.output, by simp, fun k hk => by rw [setRow_other _ _ k _ (by omega)]; exact hb.block k hk⟩
  have hm1 : m ≤ 1 := by omega
  have hmn : m ≤ n := by omega
  have hmd : n = 0 ∨ 1 ≤ m := by omega
  clear hr hrow hnew hW1 hm hcs
  have hd1 : decide ((n : Int) < 0) = false := by simp
  go_enter Tryz.func94, Tryz.ntmps94
  go_wp2_with fail
  refine ML.out.mono ?_
  rintro e w' ⟨rfl, hw'⟩
  subst w'
  have hRC := RC.out
  go_wp2
  clear hRC
  go_loopw [8] (fun i wr => ∃ k : Nat, k ≤ n ∧ (n = 0 ∨ 1 ≤ k) ∧ i = .int .i64 k ∧ Hid (Ones wr w.heap.size n k) ∧ Hid (Below w.heap.size w wr)) (fun i _ => n - (intOf i).toNat)
  case atStart => exact ⟨m, hmn, hmd, rfl, HO, HB⟩
  case round =>
    clear HO HB RC hmk hc
    obtain ⟨k, hk, hk1, rfl, HO, HB⟩ := hrel
    by_cases hk2 : k < n
    · obtain ⟨q, hq⟩ : ∃ q, q = min k (n - k) := ⟨_, rfl⟩
      obtain ⟨W', hrun, hO', _, _, hB'⟩ := ones_copy (W := wr.drew) HO.out hk hq
      have HR : Hid ((Builtin.copy_ #[27, 27] 3 #[.slice (some ⟨w.heap.size, k, none⟩) (n - k) (n - k), .slice (some ⟨w.heap.size, 0, none⟩) k n]).run Tryz.prog wr.drew = .ok (.int .i64 (q : Int)) W') := hrun
      have HO' : Hid (Ones W' w.heap.size n (k + q)) := hO'
      have HB' : Hid (Below w.heap.size w W') := hB' _ _ (Nat.le_refl _) HB.out.drew
      have hq1 : 1 ≤ q := by omega
      have hq2 : k + q ≤ n := by omega
      have hk0 : (0 : Int) ≤ (k : Int) := by omega
      have hkn : (k : Int) ≤ (n : Int) := by omega
      have hkw : IntKind.i64.wrap (k : Int) = (k : Int) := IntWalk.i64_in _ ⟨by omega, by omega⟩
      clear hrun hO' hB' HO HB hq
      go_wp2
      have hR := HR.out
      go_region
      all_goals
        go_wp2
        go_roundw
        case rel => exact ⟨k + q, by omega, by omega, by go_num, HO', HB'⟩
        case measure => simp [intOf]; omega
    · obtain rfl : k = n := by omega
      go_wp2
      go_ret
      refine ⟨_, rfl, ?_, HB.out⟩
      obtain ⟨cur, g1, g2, g3⟩ := HO.out
      rw [ints_rep]
      exact ⟨by simp, .inr ⟨w.heap.size, k, cur, rfl, Nat.le_refl _, g1, Nat.le_refl _, by unfold maxLen; omega, by omega, by rw [Nat.mul_one]; exact g3⟩⟩
end Go.Proofs.YtjobhlncllfdmaaGreat

/- package cells: levels, values. -/
namespace Go.Proofs.YtjobhlncllfdmaaGreat
open Go.RowKit

def LlAns (w : World) (R o : Nat) (C : Array Value) (T : TypeId) (lb : Nat) (F : List UInt8) (r : Option (List Nat × Nat)) (e : Ending) (w' : World) : Prop :=
  match r with
  | none => (∃ v, e = .returned (.tuple #[v, .bool false])) ∧ Fr (fun k => k = R) w w'
  | some (ls, a) => ∃ v, e = .returned (.tuple #[v, .bool true]) ∧ w'.ownsRow w.heap.size 3 1 v ls.length (ints ls) ∧ Fr (fun k => k = R) w w' ∧ ∃ C', InSt w' R o C' T lb F a ∧ SameBut o C C'

set_option maxHeartbeats 4000000 in
set_option maxRecDepth 100000 in
theorem readLevels_any (R o : Nat) (C : Array Value) (T : TypeId) (lb : Nat) (F : List UInt8) (kind cnt : Nat) (nulls idx : Bool) (vd : Value) (w : World) (h : InSt w R o C T lb F 0) (hlb : lb < w.heap.size) (hn : cnt ≤ 100000) :
    Calls Tryz.prog 83 #[.pointer (some ⟨R, o, none⟩), .agg #[.int .i64 (kind : Int), .bool nulls, .int .i64 (cnt : Int), .bool idx, vd]] w fun e w' => LlAns w R o C T lb F (Pu.lvT nulls F cnt) e w' := by
  have hR := h.lt
  cases nulls with
  | false =>
    have HX : Hid (Pu.lvT false F cnt = some (List.replicate cnt 1, 0)) := by unfold Hid Pu.lvT; rw [if_pos rfl]
    obtain ⟨W1, hW1⟩ : ∃ W1, W1 = (w.alloc (.cells #[.int .i64 (kind : Int), .bool false, .int .i64 (cnt : Int), .bool idx, vd] 157)).alloc (.cells #[.int .i64 1] 3) := ⟨_, rfl⟩
    have hb1 : Below w.heap.size w W1 := by rw [hW1]; exact ((Below.refl _ _).alloc (Nat.le_refl _) _).alloc (by simp) _
    have hs1 : W1.heap.size = w.heap.size + 2 := by rw [hW1, size_alloc', size_alloc']
    have hr1 : W1.heap[w.heap.size + 1]? = some (.cells #[.int .i64 1] 3 (0, 0)) := by
      have := heap_alloc_new (w.alloc (.cells #[.int .i64 (kind : Int), .bool false, .int .i64 (cnt : Int), .bool idx, vd] 157)) (.cells #[.int .i64 1] 3)
      rw [size_alloc'] at this
      rw [hW1]; exact this
    have RP : Hid (Calls Tryz.prog 94 #[.slice (some ⟨w.heap.size + 1, 0, none⟩) 1 1, .int .i64 (cnt : Int)] ((w.alloc (.cells #[.int .i64 (kind : Int), .bool false, .int .i64 (cnt : Int), .bool idx, vd] 157)).alloc (.cells #[.int .i64 1] 3)) fun e w' => ∃ v, e = .returned v ∧ Hid (w'.ownsRow W1.heap.size 3 1 v cnt (ints (List.replicate cnt 1))) ∧ Below W1.heap.size W1 w') := by
      rw [← hW1]
      exact repeat_any (w.heap.size + 1) cnt W1 (by rw [cell_of_row _ _ 0 _ _ _ hr1]; rfl) (by omega) hn
    have HI : Hid (∀ W : World, Below w.heap.size w W → InSt W R o C T lb F 0) := fun W hW => h.below hlb hW
    clear hW1 hr1 h
    go_enter Tryz.func83, Tryz.ntmps83
    go_wp2_with fail
    refine RP.out.mono ?_
    rintro e w2 ⟨v, rfl, hv, hb2⟩
    have hb : Below w.heap.size w w2 := bself hb1 hb2
    have HF : Hid (LlAns w R o C T lb F (Pu.lvT false F cnt) (.returned (.tuple #[v, .bool true])) w2) := by
      rw [HX.out]
      exact ⟨v, rfl, by rw [List.length_replicate]; exact hv.out.mono (by omega), Fr.of_below _ hb, C, HI.out w2 hb, SameBut.refl _ _⟩
    clear hb2 hv
    go_wp2
    go_ret2
    exact HF.out
  | true =>
    have HL : Hid (Pu.lvT true F cnt = match Pu.vi F 0 with
      | none => none
      | some (n, a) => if F.length < a + n then none else
        match Pu.rsAll (Pu.piece F a n) 1 cnt with
        | none => none
        | some l => some (l, a + n)) := by unfold Hid Pu.lvT; rw [if_neg (by simp)]; rfl
    obtain ⟨W0, hW0⟩ : ∃ W0, W0 = w.alloc (.cells #[.int .i64 (kind : Int), .bool true, .int .i64 (cnt : Int), .bool idx, vd] 157) := ⟨_, rfl⟩
    have I0 : InSt W0 R o C T lb F 0 := by rw [hW0]; exact h.below hlb (bbox w _)
    have r0 : W0.heap[w.heap.size]? = some (.cells #[.int .i64 (kind : Int), .bool true, .int .i64 (cnt : Int), .bool idx, vd] 157 (0, 0)) := by rw [hW0]; exact heap_alloc_new w _
    have F0 : Fr (fun k => k = R) w W0 := by rw [hW0]; exact Fr.alloc'
    have s0 : W0.heap.size = w.heap.size + 1 := by rw [hW0, size_alloc']
    clear h
    rcases in_varint R o C T lb F 0 W0 I0 with ⟨hv, hc1⟩ | ⟨n, a, w1, C1, hv, hc1, hS1⟩
    · have HX : Hid (Pu.lvT true F cnt = none) := by rw [Hid, HL.out, hv]
      have N1 : Hid (Calls Tryz.prog 89 #[.pointer (some ⟨R, o, none⟩)] (w.alloc (.cells #[.int .i64 (kind : Int), .bool true, .int .i64 (cnt : Int), .bool idx, vd] 157)) fun e w' => e = .returned (.tuple #[.int .u32 0, .bool false]) ∧ w' = W0) := by
        have := hc1; rw [hW0] at this ⊢; exact this
      clear hc1 hW0 I0 hv r0
      go_enter Tryz.func83, Tryz.ntmps83
      go_wp2_with fail
      refine N1.out.mono ?_
      rintro e w' ⟨rfl, hw'⟩
      subst w'
      go_wp2
      go_ret2
      rw [HX.out]
      exact ⟨⟨_, rfl⟩, F0⟩
    · obtain ⟨v1, v2, v3⟩ := Pu.vi_lt hv
      have N1 : Hid (Calls Tryz.prog 89 #[.pointer (some ⟨R, o, none⟩)] (w.alloc (.cells #[.int .i64 (kind : Int), .bool true, .int .i64 (cnt : Int), .bool idx, vd] 157)) fun e w' => e = .returned (.tuple #[.int .u32 (n : Int), .bool true]) ∧ w' = w1) := by
        have := hc1; rw [hW0] at this; exact this
      have r1 : w1.heap[w.heap.size]? = some (.cells #[.int .i64 (kind : Int), .bool true, .int .i64 (cnt : Int), .bool idx, vd] 157 (0, 0)) := by rw [hS1.fr.block _ (by omega) (by omega)]; exact r0
      have F1 : Fr (fun k => k = R) w w1 := F0.trans hS1.fr (fun _ _ h => h)
      have s1 : w1.heap.size = w.heap.size + 1 := by rw [hS1.size]; exact s0
      rcases in_take R o C1 T lb F a n w1 hS1.st with ⟨hb2, hc2⟩ | ⟨hf2, w2, C2, ap, hc2, hS2, hR2⟩
      · have HX : Hid (Pu.lvT true F cnt = none) := by rw [Hid, HL.out, hv]; simp only []; rw [if_pos hb2]
        have N2 : Hid (Calls Tryz.prog 75 #[.pointer (some ⟨R, o, none⟩), .int .i64 (n : Int)] w1 fun e w' => e = .returned (.tuple #[.slice none 0 0, .bool false]) ∧ w' = w1) := hc2
        clear hc1 hc2 hW0 I0 hv r0 r1 hS1
        go_enter Tryz.func83, Tryz.ntmps83
        go_wp2_with fail
        refine N1.out.mono ?_
        rintro e w' ⟨rfl, hw'⟩
        subst w'
        go_wp2_with fail
        refine N2.out.mono ?_
        rintro e w' ⟨rfl, hw'⟩
        subst w'
        go_wp2
        go_ret2
        rw [HX.out]
        exact ⟨⟨_, rfl⟩, F1⟩
      · have N2 : Hid (Calls Tryz.prog 75 #[.pointer (some ⟨R, o, none⟩), .int .i64 (n : Int)] w1 fun e w' => e = .returned (.tuple #[.slice ap n n, .bool true]) ∧ w' = w2) := hc2
        have hpl : (Pu.piece F a n).length = n := Pu.length_piece _ _ _ hf2
        have r2 : w2.heap[w.heap.size]? = some (.cells #[.int .i64 (kind : Int), .bool true, .int .i64 (cnt : Int), .bool idx, vd] 157 (0, 0)) := by rw [hS2.fr.block _ (by omega) (by omega)]; exact r1
        have c2 : w2.cell? ⟨w.heap.size, 2, none⟩ = some (.int .i64 (cnt : Int)) := by rw [cell_of_row _ _ 2 _ _ _ r2]; rfl
        have F2 : Fr (fun k => k = R) w w2 := F1.trans hS2.fr (fun _ _ h => h)
        have s2 : w2.heap.size = w.heap.size + 1 := by rw [hS2.size]; exact s1
        have RR : Hid (Calls Tryz.prog 95 #[.slice ap n n, .int .i64 1, .int .i64 (cnt : Int)] w2 fun e w' => RrAns w2.heap.size (Pu.rsAll (Pu.piece F a n) 1 cnt) e w' ∧ Below w2.heap.size w2 w') := by
          have := readRuns_any ap n lb 1 cnt (Pu.piece F a n) w2 hR2 (by omega) (by omega) hn
          rw [hpl] at this
          exact this
        have HL2 : Hid (Pu.lvT true F cnt = match Pu.rsAll (Pu.piece F a n) 1 cnt with
          | none => none
          | some l => some (l, a + n)) := by rw [Hid, HL.out, hv]; simp only []; rw [if_neg (by omega)]
        have HI2 : Hid (InSt w2 R o C2 T lb F (a + n)) := hS2.st
        have hsb := hS1.same.trans hS2.same
        clear hc1 hc2 hW0 I0 hv r0 r1 r2 hS1 hS2 hR2 HL hpl
        cases hrs : Pu.rsAll (Pu.piece F a n) 1 cnt with
        | none =>
          have HX : Hid (Pu.lvT true F cnt = none) := by rw [Hid, HL2.out, hrs]
          rw [hrs] at RR
          clear hrs
          go_enter Tryz.func83, Tryz.ntmps83
          go_wp2_with fail
          refine N1.out.mono ?_
          rintro e w' ⟨rfl, hw'⟩
          subst w'
          go_wp2_with fail
          refine N2.out.mono ?_
          rintro e w' ⟨rfl, hw'⟩
          subst w'
          go_wp2_with fail
          refine RR.out.mono ?_
          rintro e w3 ⟨rfl, hb3⟩
          have HF3 : Hid (Fr (fun j => j = R) w w3) := F2.trans (Fr.of_below (fun j => j = R) hb3) (fun _ _ h => h)
          clear hb3
          go_wp2
          go_ret2
          rw [HX.out]
          exact ⟨⟨_, rfl⟩, HF3.out⟩
        | some l =>
          have HX : Hid (Pu.lvT true F cnt = some (l, a + n)) := by rw [Hid, HL2.out, hrs]
          rw [hrs] at RR
          clear hrs
          go_enter Tryz.func83, Tryz.ntmps83
          go_wp2_with fail
          refine N1.out.mono ?_
          rintro e w' ⟨rfl, hw'⟩
          subst w'
          go_wp2_with fail
          refine N2.out.mono ?_
          rintro e w' ⟨rfl, hw'⟩
          subst w'
          go_wp2_with fail
          refine RR.out.mono ?_
          rintro e w3 ⟨⟨v, rfl, hvo⟩, hb3⟩
          have HF3 : Hid (LlAns w R o C T lb F (Pu.lvT true F cnt) (.returned (.tuple #[v, .bool true])) w3) := by
            rw [HX.out]
            exact ⟨v, rfl, hvo.mono (by omega), F2.trans (Fr.of_below (fun j => j = R) hb3) (fun _ _ h => h), C2, HI2.out.below (by omega) hb3, hsb⟩
          clear hb3 hvo
          go_wp2
          go_ret2
          exact HF3.out

theorem eaAns_box {w : World} {R o : Nat} {C : Array Value} {T : TypeId} {lb : Nat} {F : List UInt8} {r : Option (List Pu.Cl × Nat)} {e : Ending} {w' : World} {ob : Obj} (h : EaAns (w.alloc ob) R o C T lb F r e w') : EaAns w R o C T lb F r e w' := by
  unfold EaAns at h ⊢
  split at h
  · exact ⟨h.1, (Fr.alloc' (T := fun k => k = R) (o := ob)).trans h.2 (fun _ _ h => h)⟩
  · obtain ⟨v, h1, h2, h3, h4⟩ := h
    exact ⟨v, h1, h2.mono (bbox w ob).size, (Fr.alloc' (T := fun k => k = R) (o := ob)).trans h3 (fun _ _ h => h), h4⟩

theorem eaAns_two {w : World} {R o : Nat} {C : Array Value} {T : TypeId} {lb : Nat} {F : List UInt8} {r : Option (List Pu.Cl × Nat)} {e : Ending} {w' : World} (h : EaAns w R o C T lb F r e w') : ∃ v b, e = .returned (.tuple #[v, .bool b]) := by
  unfold EaAns at h
  split at h
  · obtain ⟨⟨v, hv⟩, _⟩ := h; exact ⟨v, false, hv⟩
  · obtain ⟨v, hv, _⟩ := h; exact ⟨v, true, hv⟩

set_option maxHeartbeats 4000000 in
set_option maxRecDepth 100000 in
theorem readValues_any (R o : Nat) (C : Array Value) (T : TypeId) (lb : Nat) (F : List UInt8) (a n kind cnt : Nat) (nulls idx : Bool) (ad : Option Addr) (cd Bd : Nat) (dict : List Pu.Cl) (w : World) (h : InSt w R o C T lb F a) (hlb : lb < w.heap.size) (hn : n ≤ 100000) (hk : kind ≤ 2) (hd : w.ownsRow Bd 57 3 (.slice ad dict.length cd) dict.length (clsV dict)) (hdR : T ≠ 57) (hdl : dict.length ≤ 100000) :
    Calls Tryz.prog 84 #[.pointer (some ⟨R, o, none⟩), .agg #[.int .i64 (kind : Int), .bool nulls, .int .i64 (cnt : Int), .bool idx, .slice ad dict.length cd], .int .i64 (n : Int)] w fun e w' => EaAns w R o C T lb F (Pu.valsT idx kind dict F a n) e w' := by
  have I : Hid (∀ ob : Obj, InSt (w.alloc ob) R o C T lb F a ∧ lb < (w.alloc ob).heap.size ∧ (w.alloc ob).ownsRow Bd 57 3 (.slice ad dict.length cd) dict.length (clsV dict)) := fun ob => ⟨h.below hlb (bbox w ob), by rw [size_alloc']; omega, own_below hd (bbox w ob)⟩
  have two : ∀ {f : FuncId} {args : Array Value} {ob : Obj} {r : Option (List Pu.Cl × Nat)}, Calls Tryz.prog f args (w.alloc ob) (fun e w' => EaAns (w.alloc ob) R o C T lb F r e w') → Calls Tryz.prog f args (w.alloc ob) fun e w' => ∃ v b, e = .returned (.tuple #[v, .bool b]) ∧ EaAns w R o C T lb F r (.returned (.tuple #[v, .bool b])) w' := by
    intro f args ob r hc
    refine hc.mono ?_
    intro e w' he
    obtain ⟨v, b, rfl⟩ := eaAns_two he
    exact ⟨v, b, rfl, eaAns_box he⟩
  have CI : Hid (∀ ob : Obj, Calls Tryz.prog 96 #[.pointer (some ⟨R, o, none⟩), .slice ad dict.length cd, .int .i64 (n : Int)] (w.alloc ob) fun e w' => ∃ v b, e = .returned (.tuple #[v, .bool b]) ∧ EaAns w R o C T lb F (Pu.idxT dict F a n) (.returned (.tuple #[v, .bool b])) w') := fun ob =>
    two (readIndices_any R o C T lb F a n ad cd Bd dict (w.alloc ob) (I.out ob).1 (I.out ob).2.1 hn (I.out ob).2.2 hdR hdl)
  have CB : Hid (∀ ob : Obj, Calls Tryz.prog 97 #[.pointer (some ⟨R, o, none⟩), .int .i64 (n : Int)] (w.alloc ob) fun e w' => ∃ v b, e = .returned (.tuple #[v, .bool b]) ∧ EaAns w R o C T lb F (Pu.boolsT F a n) (.returned (.tuple #[v, .bool b])) w') := fun ob =>
    two (readBools_any R o C T lb F a n (w.alloc ob) (I.out ob).1 (I.out ob).2.1 hn)
  have C1 : Hid (∀ ob : Obj, Calls Tryz.prog 98 #[.pointer (some ⟨R, o, none⟩), .int .i64 (n : Int), .func (.func 99) #[] #[]] (w.alloc ob) fun e w' => ∃ v b, e = .returned (.tuple #[v, .bool b]) ∧ EaAns w R o C T lb F (Pu.eachGo 1 F n a []) (.returned (.tuple #[v, .bool b])) w') := fun ob =>
    two (eachInts R o C T lb F a n (w.alloc ob) (I.out ob).1 (I.out ob).2.1 hn)
  have C2 : Hid (∀ ob : Obj, Calls Tryz.prog 98 #[.pointer (some ⟨R, o, none⟩), .int .i64 (n : Int), .func (.func 100) #[] #[]] (w.alloc ob) fun e w' => ∃ v b, e = .returned (.tuple #[v, .bool b]) ∧ EaAns w R o C T lb F (Pu.eachGo 2 F n a []) (.returned (.tuple #[v, .bool b])) w') := fun ob =>
    two (eachTexts R o C T lb F a n (w.alloc ob) (I.out ob).1 (I.out ob).2.1 hn)
  clear two h hd I
  cases idx with
  | true =>
    have HX : Hid (Pu.valsT true kind dict F a n = Pu.idxT dict F a n) := by unfold Hid Pu.valsT; rw [if_pos rfl]
    go_enter Tryz.func84, Tryz.ntmps84
    go_wp2_with fail
    refine (CI.out _).mono ?_
    rintro e w1 ⟨v, b, rfl, hE⟩
    have HE : Hid (EaAns w R o C T lb F (Pu.idxT dict F a n) (.returned (.tuple #[v, .bool b])) w1) := hE
    clear hE
    go_wp2
    go_ret2
    rw [HX.out]
    exact HE.out
  | false =>
    have hkc : kind = 0 ∨ kind = 1 ∨ kind = 2 := by omega
    rcases hkc with hk0 | hk0 | hk0
    · have HX : Hid (Pu.valsT false kind dict F a n = Pu.boolsT F a n) := by unfold Hid Pu.valsT; rw [if_neg (by simp), if_pos hk0]
      have hkd : ((kind : Int) == 0) = true := by simp; omega
      clear hk0
      go_enter Tryz.func84, Tryz.ntmps84
      go_wp2_with fail
      refine (CB.out _).mono ?_
      rintro e w1 ⟨v, b, rfl, hE⟩
      have HE : Hid (EaAns w R o C T lb F (Pu.boolsT F a n) (.returned (.tuple #[v, .bool b])) w1) := hE
      clear hE
      go_wp2
      go_ret2
      rw [HX.out]
      exact HE.out
    · have HX : Hid (Pu.valsT false kind dict F a n = Pu.eachGo 1 F n a []) := by unfold Hid Pu.valsT; rw [if_neg (by simp), if_neg (by omega), hk0]
      have hkd : ((kind : Int) == 0) = false := by simp; omega
      have hkd1 : ((kind : Int) == 1) = true := by simp; omega
      clear hk0
      go_enter Tryz.func84, Tryz.ntmps84
      go_wp2_with fail
      refine (C1.out _).mono ?_
      rintro e w1 ⟨v, b, rfl, hE⟩
      have HE : Hid (EaAns w R o C T lb F (Pu.eachGo 1 F n a []) (.returned (.tuple #[v, .bool b])) w1) := hE
      clear hE
      go_wp2
      go_ret2
      rw [HX.out]
      exact HE.out
    · have HX : Hid (Pu.valsT false kind dict F a n = Pu.eachGo 2 F n a []) := by unfold Hid Pu.valsT; rw [if_neg (by simp), if_neg (by omega), hk0]
      have hkd : ((kind : Int) == 0) = false := by simp; omega
      have hkd1 : ((kind : Int) == 1) = false := by simp; omega
      clear hk0
      go_enter Tryz.func84, Tryz.ntmps84
      go_wp2_with fail
      refine (C2.out _).mono ?_
      rintro e w1 ⟨v, b, rfl, hE⟩
      have HE : Hid (EaAns w R o C T lb F (Pu.eachGo 2 F n a []) (.returned (.tuple #[v, .bool b])) w1) := hE
      clear hE
      go_wp2
      go_ret2
      rw [HX.out]
      exact HE.out
end Go.Proofs.YtjobhlncllfdmaaGreat
