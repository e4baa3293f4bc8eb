/- Lemmas for the reference's Runs. -/
import Derived.Test.YtjobhlncllfdmaaM01
import Derived.Deep.AppendLies
import Derived.Deep.AppendSrc
import Derived.Deep.Upon
namespace Go.Proofs.Ytjobhlncllfdmaa
open Go.RowKit

def slen : Value → Nat | .slice _ n _ => n | _ => 0
def ints (xs : List Nat) : List Value := xs.map fun (n : Nat) => Value.int .i64 (n : Int)
theorem Try.info3 : (Try.prog.info? 3).map (fun i => (i.zero, i.size, i.bytes)) = some (some (.int .i64 0), 1, 8) := by kernel_rfl

theorem slen_of {w : World} {base e size : Nat} {v : Value} {n : Nat} {xs : List Value} (h : w.ownsRow base e size v n xs) : ∃ ao cap, v = .slice ao n cap := by
  rcases h.2 with ⟨rfl, rfl⟩ | ⟨g, cap, cur, rfl, _⟩
  · exact ⟨none, 0, rfl⟩
  · exact ⟨_, _, rfl⟩

theorem one_new {w : World} {B : Nat} {e : TypeId} {x : Value} (hB : B = w.heap.size) : ∀ (j : Nat) (u : Value), [x][j]? = some u → (w.alloc (Obj.cells #[x] e)).cell? ((⟨B, 0, none⟩ : Addr).add j) = some u := by
  intro j u hj
  subst hB
  match j, hj with
  | 0, hj => simp at hj; subst hj; simp [Addr.add]
theorem one_cell {k : IntKind} {x : Int} : ∀ (u : Value), u ∈ [Value.int k x] → u.oneCell' = true := by
  intro u hu; simp at hu; subst hu; rfl
theorem size_alloc' (w : World) (o : Obj) : (w.alloc o).heap.size = w.heap.size + 1 := by simp
theorem ints_snoc (xs : List Nat) (x : Nat) : ints xs ++ [Value.int .i64 x] = ints (xs ++ [x]) := by simp [ints]
theorem rep_snoc (xs : List Nat) (k x : Nat) : xs ++ List.replicate k x ++ [x] = xs ++ List.replicate (k + 1) x := by
  rw [List.append_assoc, List.replicate_succ']
theorem below_append {B : Nat} {w wr w1 : World} {o : Obj} {row : Option Nat} (h : Below B w wr) (hB : B ≤ w.heap.size) (hg : (wr.alloc o).grownBy w1 row) (hr : ∀ k, row = some k → B ≤ k) : Below B w w1 :=
  (h.alloc (Nat.le_trans hB h.size) o).grown hg (by rw [size_alloc']; have := h.size; omega) hr

theorem power_nat (n : Nat) (w : World) (hn : n ≤ 24) :
    Calls Try.prog 45 #[.int .i64 n] w fun e w' => e = .returned (.int .i64 ((pow2 n : Nat) : Int)) ∧ w' = w := power_any n w hn

theorem rs_done {D : List UInt8} {W C f a : Nat} {xs : List Nat} (h : ¬ xs.length < C) : Pu.rs D W C f a xs = some (xs, a) := by
  unfold Pu.rs; rw [if_neg h]
theorem rs_no {D : List UInt8} {W C f a : Nat} {xs : List Nat} (h : xs.length < C) (hs : Pu.step D W C a xs = none) : Pu.rs D W C f a xs = none := by
  unfold Pu.rs; rw [if_pos h]; cases f with
  | zero => rfl
  | succ f => simp [hs]
theorem rs_yes {D : List UInt8} {W C f a a' : Nat} {xs o : List Nat} (h : xs.length < C) (hf : C ≤ xs.length + f) (hs : Pu.step D W C a xs = some (a', o)) : Pu.rs D W C f a xs = Pu.rs D W C (f - 1) a' o := by
  obtain ⟨g, rfl⟩ : ∃ g, f = g + 1 := ⟨f - 1, by omega⟩
  rw [Pu.rs, if_pos h]
  simp [hs]
theorem step_vi {D : List UInt8} {W C a : Nat} {xs : List Nat} (h : Pu.vi D a = none) : Pu.step D W C a xs = none := by simp [Pu.step, h]
theorem step_two {D : List UInt8} {W C a h nx : Nat} {xs : List Nat} (hv : Pu.vi D a = some (h, nx)) (h2 : h < 2) : Pu.step D W C a xs = none := by simp [Pu.step, hv, h2]
theorem step_lo {D : List UInt8} {W C a h nx : Nat} {xs : List Nat} (hv : Pu.vi D a = some (h, nx)) (h2 : ¬ h < 2) (hm : h % 2 = 0) (hl : Pu.lo D nx ((W + 7) / 8) = none) : Pu.step D W C a xs = none := by
  simp [Pu.step, hv, h2, hm, hl]
theorem step_eq_no {D : List UInt8} {W C a h nx x : Nat} {xs : List Nat} (hv : Pu.vi D a = some (h, nx)) (h2 : ¬ h < 2) (hm : h % 2 = 0) (hl : Pu.lo D nx ((W + 7) / 8) = some x) (hb : 2 ^ W ≤ x ∨ C - xs.length < h / 2) : Pu.step D W C a xs = none := by
  simp only [Pu.step, hv, hl]; rw [if_neg h2, if_pos hm, if_pos hb]
theorem step_eq {D : List UInt8} {W C a h nx x : Nat} {xs : List Nat} (hv : Pu.vi D a = some (h, nx)) (h2 : ¬ h < 2) (hm : h % 2 = 0) (hl : Pu.lo D nx ((W + 7) / 8) = some x) (hb : ¬ (2 ^ W ≤ x ∨ C - xs.length < h / 2)) :
    Pu.step D W C a xs = some (nx + (W + 7) / 8, xs ++ List.replicate (h / 2) x) := by
  simp only [Pu.step, hv, hl]; rw [if_neg h2, if_pos hm, if_neg hb]
theorem step_8_no {D : List UInt8} {W C a h nx : Nat} {xs : List Nat} (hv : Pu.vi D a = some (h, nx)) (h2 : ¬ h < 2) (hm : ¬ h % 2 = 0) (hb : C - xs.length ≤ 8 * (h / 2) - 8 ∨ D.length < nx + h / 2 * W) : Pu.step D W C a xs = none := by
  simp only [Pu.step, hv]; rw [if_neg h2, if_neg hm, if_pos hb]
theorem step_8 {D : List UInt8} {W C a h nx : Nat} {xs : List Nat} (hv : Pu.vi D a = some (h, nx)) (h2 : ¬ h < 2) (hm : ¬ h % 2 = 0) (hb : ¬ (C - xs.length ≤ 8 * (h / 2) - 8 ∨ D.length < nx + h / 2 * W)) :
    Pu.step D W C a xs = if ((Pu.nums (Pu.piece D nx (h / 2 * W)) W (8 * (h / 2))).drop (C - xs.length)).all (· == 0) then some (nx + h / 2 * W, xs ++ (Pu.nums (Pu.piece D nx (h / 2 * W)) W (8 * (h / 2))).take (C - xs.length)) else none := by
  simp only [Pu.step, hv]; rw [if_neg h2, if_neg hm, if_neg hb]

/-- what the reference's Runs answers -/
def RunsAns (base : Nat) (r : Option (List Nat × Nat)) (e : Ending) (w' : World) : Prop :=
  match r with
  | none => e = .returned (.tuple #[.slice none 0 0, .int .i64 0, .bool false])
  | some (xs, a) => ∃ v, e = .returned (.tuple #[v, .int .i64 a, .bool true]) ∧ w'.ownsRow base 3 1 v xs.length (ints xs)

theorem ownsRow_drewN {w : World} {base : Nat} {e : TypeId} {size : Nat} {v : Value} {n : Nat} {xs : List Value} (h : w.ownsRow base e size v n xs) (q : Nat) : (w.drewN q).ownsRow base e size v n xs := h

theorem bit_int (s : ByteArray) (i : Int) (w : World) (hs : s.size ≤ maxLen) (h0 : 0 ≤ i) (hi : i.toNat / 8 < s.size) (hi2 : i ≤ 1000000000000) :
    Calls Try.prog 46 #[.string s, .int .i64 i] w fun e w' => e = .returned (.int .i64 (Pu.bitAt s.data.toList i.toNat)) ∧ ∃ n, w' = w.drewN n := by
  obtain ⟨m, rfl⟩ := Int.eq_ofNat_of_zero_le h0
  rw [Int.toNat_natCast] at *
  exact bit_any s m w hs hi (by omega)

theorem bit_ex (s : ByteArray) (L : List UInt8) (HL : Hid (L = s.data.toList)) (i : Int) (w : World) (hs : s.size ≤ maxLen) (h0 : 0 ≤ i) (hi : i.toNat / 8 < s.size) (hi2 : i ≤ 1000000000000) :
    Calls Try.prog 46 #[.string s, .int .i64 i] w fun e w' => ∃ b q : Nat, e = .returned (.int .i64 b) ∧ b < 2 ∧ Hid (b = Pu.bitAt L i.toNat) ∧ w' = w.drewN q := by
  refine (bit_int s i w hs h0 hi hi2).mono ?_
  rintro e w' ⟨he, q, hw⟩
  exact ⟨_, q, he, Pu.bitAt_lt _ _, by rw [Hid, HL.out], hw⟩

theorem extract_list (s : ByteArray) (a p : Nat) (_h : a + p ≤ s.size) : (s.extract a (a + p)).data.toList = Pu.piece s.data.toList a p := by
  rw [ByteArray.data_extract, Array.toList_extract]
  simp [Pu.piece, List.extract_eq_take_drop]

theorem nTop_step (L : List UInt8) (q j W : Nat) (h : j < W) : Pu.nTop L q j (W - j) = Pu.bitAt L (q + j) + 2 * Pu.nTop L q (j + 1) (W - (j + 1)) := by
  rw [show W - j = (W - (j + 1)) + 1 by omega]; rfl

theorem nTop_lt (L : List UInt8) (q j m : Nat) : Pu.nTop L q j m < 2 ^ m := by
  induction m generalizing j with
  | zero => simp [Pu.nTop]
  | succ m ih =>
    have := ih (j + 1)
    have hb := Pu.bitAt_lt L (q + j)
    simp only [Pu.nTop, Nat.pow_succ]
    omega

/-- what a round of the eights does to what was gathered -/
theorem gath_lt (L : List UInt8) (W i M : Nat) (h : i < M) : (Pu.nums L W (i + 1)).take M = (Pu.nums L W i).take M ++ [Pu.nAt L (i * W) W] := by
  rw [List.take_of_length_le (by rw [Pu.length_nums]; omega), List.take_of_length_le (by rw [Pu.length_nums]; omega), Pu.nums_succ]
theorem gath_ge (L : List UInt8) (W i M : Nat) (h : M ≤ i) : (Pu.nums L W (i + 1)).take M = (Pu.nums L W i).take M := by
  rw [Pu.take_nums _ _ _ _ (by omega), Pu.take_nums _ _ _ _ h]
theorem zero_lt (L : List UInt8) (W i M : Nat) (h : i < M) : ((Pu.nums L W (i + 1)).drop M).all (· == 0) = true := by
  rw [List.drop_of_length_le (by rw [Pu.length_nums]; omega)]; rfl
theorem zero_ge (L : List UInt8) (W i M : Nat) (h : M ≤ i) : ((Pu.nums L W (i + 1)).drop M).all (· == 0) = (((Pu.nums L W i).drop M).all (· == 0) && Pu.nAt L (i * W) W == 0) := by
  rw [Pu.nums_succ, List.drop_append_of_le_length (by rw [Pu.length_nums]; exact h)]
  simp
theorem zero_no {L : List UInt8} {W i M n : Nat} (hM : M ≤ i) (hi : i < n) (h : Pu.nAt L (i * W) W ≠ 0) : ((Pu.nums L W n).drop M).all (· == 0) = false := by
  rw [List.all_eq_false]
  refine ⟨Pu.nAt L (i * W) W, ?_, by simpa using h⟩
  rw [List.mem_iff_getElem]
  refine ⟨i - M, by rw [List.length_drop, Pu.length_nums]; omega, ?_⟩
  rw [List.getElem_drop]
  simp only [Pu.nums, List.getElem_map, List.getElem_range]
  rw [show M + (i - M) = i by omega]

end Go.Proofs.Ytjobhlncllfdmaa

/- Contracts of the book's small functions: lend, next, num, sameInts. -/
namespace Go.Proofs.Ytjobhlncllfdmaa
open Go.RowKit

theorem Try.info5 : (Try.prog.info? 5).map (fun i => (i.zero, i.size, i.bytes)) = some (some (.int .u8 0), 1, 1) := by kernel_rfl

def bytesV (D : List UInt8) : List Value := D.map fun b => Value.int .u8 b.toNat

theorem length_bytesV (D : List UInt8) : (bytesV D).length = D.length := by simp [bytesV]

/-- the first append of lend: a string's bytes onto nil -/
theorem append_str (s : ByteArray) (w : World) (hs : s.size ≤ 140737488355000) (ty : TypeId) :
    ∃ v w1, (Builtin.append_ #[24, 9] ty #[.slice none 0 0, .string s]).run Try.prog w = .ok v w1 ∧ w1.ownsRow w.heap.size 5 1 v s.size (bytesV s.data.toList) ∧ Below w.heap.size w w1 := by
  obtain ⟨i0, hi, hz0, hz1, hz2⟩ := info_parts Try.info5
  have hsrc : Src Try.prog i0.size 9 (.string s) s.size (byteCells s) w := by rw [hz1]; exact Src.ofString w Try.underlying9 s
  by_cases h0 : s.size = 0
  · have hb : byteCells s = [] := List.eq_nil_of_length_eq_zero (by rw [byteCells_length]; exact h0)
    rw [h0, hb] at hsrc
    refine ⟨_, _, run_append_nothing w 24 9 ty 5 i0 Try.underlying24 hi none 0 0 (Nat.le_refl _) (.string s) hsrc, ?_, Below.refl _ _⟩
    rw [h0, show bytesV s.data.toList = [] from hb]
    exact World.ownsRow_nil _ _ _ _
  · have hr := run_append_grow_src w 24 9 ty 5 i0 (.int .u8 0) Try.underlying24 hi hz0 none 0 0 [] (by simpa using run_firstCells_none (P := Try.prog) w.drew i0.size 0 0 0) (.string s) s.size (byteCells s) hsrc (by omega) (by omega)
      (by rw [hz2]; exact growslice_fits (by omega) (by omega))
    simp only [Nat.zero_add, List.nil_append] at hr
    refine ⟨_, _, hr, ?_, ((Below.refl _ _).drew).alloc (Nat.le_refl _) _⟩
    have hge := grownCap_ge w s.size 0 5
    have hcm : grownCap w s.size 0 5 ≤ maxLen := grownCap_le_maxLen w s.size 0 5 (by unfold maxLen; omega)
    refine ⟨by rw [length_bytesV]; simp, .inr ⟨w.heap.size, _, _, rfl, Nat.le_refl _, heap_alloc_new w.drew _, hge, hcm, ?_, ?_⟩⟩
    · simp only [Array.size_append, List.size_toArray, byteCells_length, size_zeroCells]
      rw [show (Value.int .u8 0).cells.size = 1 from rfl]; omega
    · rw [Array.toList_append]
      rw [List.take_append_of_le_length (by simp [byteCells_length])]
      rw [List.take_of_length_le (by simp [byteCells_length])]
      rfl

/-- an append whose run is known, in the walk -/
theorem wpList_append_run {P : Program} {ops : Array Oper} {rest : List Oper} {o : Oper} {a : Act} {Q : Exit → Act → World → Prop} {w w' : World} (hgd : o.guard = none) (s x : Operand) (t tx : TypeId)
    (ho : o.op = .call { callee := .builtin .append, args := #[s, x], argTypes := #[t, tx] }) (vs vx v' : Value) (hs : a.eval s = vs) (hx : a.eval x = vx)
    (hr : (Builtin.append_ #[t, tx] o.type #[vs, vx]).run P w = .ok v' w') (h : wpList P ops Q rest (a.put o.dst v') w') : wpList P ops Q (o :: rest) a w := by
  refine wpList_plain hgd fun K hK => ?_
  unfold Oper.wp execOp
  simp only [ho, resolve, invoke, builtin, Sem.run_bind, Sem.run_pure, Result.andThen_ok, List.map_toArray, List.map_cons, List.map_nil, hs, hx, hr]
  exact hK _ _ h

set_option maxHeartbeats 1000000 in
set_option maxRecDepth 100000 in
theorem lend_any (s : ByteArray) (w : World) (hs : s.size ≤ 140737488355000) :
    Calls Try.prog 18 #[.string s] w fun e w' => ∃ g cap, e = .returned (.slice (some ⟨g, 0, none⟩) (s.size + 3) cap) ∧ w'.ownsRow w.heap.size 5 1 (.slice (some ⟨g, 0, none⟩) (s.size + 3) cap) (s.size + 3) (bytesV s.data.toList ++ [.int .u8 200, .int .u8 201, .int .u8 202]) ∧ Below w.heap.size w w' := by
  obtain ⟨v, w1, hrun, hown, hbel⟩ := append_str s w hs 24
  obtain ⟨i0, hi, hz0, hz1, hz2⟩ := info_parts Try.info5
  obtain ⟨ao, cap, rfl⟩ := slen_of hown
  go_enter Try.func18, Try.ntmps18
  go_wp2_with (first | (at_builtin; refine wpList_append_run rfl (.tmp 4) (.tmp 5) 24 9 rfl _ _ _ rfl rfl hrun ?_) | (at_builtin; refine wpList_append_lies _ rfl (.tmp 7) (.tmp 8) 24 rfl w.heap.size 5 i0 (.int .u8 0) 1 1 Try.underlying24 hi hz0 hz1 hz2 rfl (by decide) _ _ _ rfl (hown.alloc _) ⟨_, 0, none⟩ 3 3 [.int .u8 200, .int .u8 201, .int .u8 202] rfl rfl ?c1 ?c2 (by decide) ?c3 ?c4 ?c5 _ rfl ?_) | go_in)
  case c1 => exact World.news_of_block (cs := #[.int .u8 200, .int .u8 201, .int .u8 202]) (heap_alloc_new w1 _)
  case c2 => intro u hu; simp at hu; rcases hu with rfl | rfl | rfl <;> rfl
  case c3 => unfold maxLen; omega
  case c4 => omega
  case c5 => rw [size_alloc']; have := hbel.size; omega
  intro g cap2 w2 hown2 hg hat hlt2
  have hbel2 : Below w.heap.size w w2 := below_append hbel (Nat.le_refl _) hg (fun k e => (hown.lt k e).1)
  clear hg hat hown
  go_wp2
  go_ret
  exact ⟨g, cap2, rfl, hown2, hbel2⟩

set_option maxHeartbeats 1000000 in
theorem num_any (n : Int) (w : World) (hn : -9223372036854775808 ≤ n ∧ n ≤ 9223372036854775807) : Calls Try.prog 20 #[.int .i64 n] w fun e w' => e = .returned (.int .i64 n) ∧ w' = w := by
  obtain ⟨h1, h2⟩ := hn
  go_enter Try.func20, Try.ntmps20
  go_wp2
  go_ret
  exact ⟨rfl, rfl⟩

set_option maxHeartbeats 1000000 in
theorem next_any (b : Nat) (m : Int) (w : World) (hc : w.cell? ⟨b, 0, none⟩ = some (.int .i64 m)) (hf : w.frozen? ⟨b, 0, none⟩ = false) :
    Calls Try.prog 47 #[.pointer (some ⟨b, 0, none⟩)] w fun e w' => ∃ k k' : Int, e = .returned (.int .i64 k) ∧ w' = w.setCell ⟨b, 0, none⟩ (.int .i64 k') := by
  go_enter Try.func47, Try.ntmps47
  go_wp2
  go_ret
  exact ⟨_, _, rfl, rfl⟩

set_option maxHeartbeats 1000000 in
theorem same_any (a1 a2 : Option Addr) (c1 c2 : Nat) (xs : List Nat) (B1 B2 : Nat) (w : World) (h1 : w.ownsRow B1 3 1 (.slice a1 xs.length c1) xs.length (ints xs)) (h2 : w.ownsRow B2 3 1 (.slice a2 xs.length c2) xs.length (ints xs)) (hx : xs.length ≤ 100000) :
    Calls Try.prog 22 #[.slice a1 xs.length c1, .slice a2 xs.length c2] w fun e w' => e = .returned (.bool true) ∧ ∃ n, w' = w.drewN n := by
  have hcell : ∀ (B : Nat) (ao : Option Addr) (c : Nat), w.ownsRow B 3 1 (.slice ao xs.length c) xs.length (ints xs) → ∀ k, k < xs.length → ∃ g, ao = some ⟨g, 0, none⟩ ∧ w.cell? ⟨g, k, none⟩ = some (.int .i64 (xs.getD k 0 : Nat)) := by
    intro B ao c h k hk
    obtain ⟨g, cap, he, _, _⟩ := h.form (by omega)
    simp only [Value.slice.injEq] at he
    obtain ⟨rfl, _, rfl⟩ := he
    refine ⟨g, rfl, ?_⟩
    have := h.cells (g := g) rfl k (.int .i64 (xs.getD k 0 : Nat)) (by simp [ints, List.getElem?_eq_getElem hk])
    rw [show (⟨g, 0, none⟩ : Addr).add k = ⟨g, k, none⟩ from by unfold Addr.add; split <;> simp_all] at this
    exact this
  have HC1 : Hid _ := hcell B1 a1 c1 h1
  have HC2 : Hid _ := hcell B2 a2 c2 h2
  clear hcell h1 h2
  have hnn : ((xs.length : Int) != (xs.length : Int)) = false := by simp
  go_enter Try.func22, Try.ntmps22
  go_wp2
  go_loopw [5] (fun i wr => ∃ k q : Nat, k ≤ xs.length ∧ i = .int .i64 k ∧ wr = w.drewN q) (fun i _ => xs.length - (intOf i).toNat)
  case atStart => exact ⟨0, 0, Nat.zero_le _, rfl, rfl⟩
  case round =>
    obtain ⟨k, q, hk, rfl, rfl⟩ := hrel
    by_cases hk2 : k < xs.length
    · obtain ⟨g1, rfl, hc1⟩ := HC1.out k hk2
      obtain ⟨g2, rfl, hc2⟩ := HC2.out k hk2
      generalize xs.getD k 0 = x at *
      go_wp2
      go_quiet (fail)
      go_wp2
      go_roundw
      case rel => exact ⟨k + 1, _, by omega, by go_num, rfl⟩
      case measure => simp [intOf]; omega
    · go_wp2
      go_ret
      exact ⟨rfl, q, rfl⟩
end Go.Proofs.Ytjobhlncllfdmaa

/- A string's bytes behind a row of one's own; low with numbers as the walk writes them. -/
namespace Go.Proofs.Ytjobhlncllfdmaa
open Go.RowKit

theorem append_strOn (s : ByteArray) (w : World) (B : Nat) (v : Value) (n : Nat) (xs : List Value) (hown : w.ownsRow B 5 1 v n xs) (hB : B ≤ w.heap.size) (hs : n + s.size ≤ 140737488355328) (ty : TypeId) :
    ∃ v' w1, (Builtin.append_ #[24, 9] ty #[v, .string s]).run Try.prog w = .ok v' w1 ∧ w1.ownsRow B 5 1 v' (n + s.size) (xs ++ bytesV s.data.toList) ∧ w.grownBy w1 v.ownBlock := by
  obtain ⟨i0, hi, hz0, hz1, hz2⟩ := info_parts Try.info5
  have hsrc : Src Try.prog i0.size 9 (.string s) s.size (byteCells s) w := by rw [hz1]; exact Src.ofString w Try.underlying9 s
  have hlx : xs.length = n := by have := hown.1; omega
  have hbl : (bytesV s.data.toList).length = s.size := by rw [length_bytesV]; simp
  obtain ⟨ao, cap, rfl⟩ := slen_of hown
  by_cases h0 : s.size = 0
  · have hb : byteCells s = [] := List.eq_nil_of_length_eq_zero (by rw [byteCells_length]; exact h0)
    rw [h0, hb] at hsrc
    have hle : n ≤ cap := by
      rcases hown.2 with ⟨h, _⟩ | ⟨g, cap', cur, h, _, _, hnc, _⟩
      · simp only [Value.slice.injEq] at h; omega
      · simp only [Value.slice.injEq] at h; omega
    refine ⟨_, _, run_append_nothing w 24 9 ty 5 i0 Try.underlying24 hi ao n cap hle (.string s) hsrc, ?_, ⟨rfl, rfl, rfl, Nat.le_refl _, fun _ _ _ => rfl⟩⟩
    rw [h0, show bytesV s.data.toList = [] from hb, List.append_nil, Nat.add_zero]
    exact hown
  · have grow : ∀ (olds : List Value), (Builtin.firstCells i0.size n (.slice ao n cap)).run Try.prog w.drew = .ok olds.toArray w.drew → olds = xs → cap < n + s.size → ∃ v' w1, (Builtin.append_ #[24, 9] ty #[.slice ao n cap, .string s]).run Try.prog w = .ok v' w1 ∧ w1.ownsRow B 5 1 v' (n + s.size) (xs ++ bytesV s.data.toList) ∧ w.grownBy w1 (Value.slice ao n cap).ownBlock := by
      intro olds hold he hc
      subst he
      have hr := run_append_grow_src w 24 9 ty 5 i0 (.int .u8 0) Try.underlying24 hi hz0 ao n cap olds hold (.string s) s.size (byteCells s) hsrc hc (by omega) (by rw [hz2]; exact growslice_fits (by omega) (by omega))
      have hge := grownCap_ge w (n + s.size) cap 5
      have hcm : grownCap w (n + s.size) cap 5 ≤ maxLen := grownCap_le_maxLen w (n + s.size) cap 5 (by unfold maxLen; omega)
      refine ⟨_, _, hr, ⟨by rw [List.length_append, hlx, hbl]; omega, .inr ⟨w.heap.size, _, _, rfl, hB, heap_alloc_new w.drew _, hge, hcm, ?_, ?_⟩⟩, ⟨rfl, rfl, rfl, by simp, fun k hk _ => Below.heap_alloc w.drew _ k hk⟩⟩
      · simp only [Array.size_append, List.size_toArray, List.length_append, byteCells_length, size_zeroCells, hlx]
        rw [show (Value.int .u8 0).cells.size = 1 from rfl]; omega
      · rw [Array.toList_append, List.take_append_of_le_length (by simp [byteCells_length, hlx]), List.take_of_length_le (by simp [byteCells_length, hlx])]
        rfl
    rcases hown.2 with ⟨hv, hn0⟩ | ⟨g, cap', cur, hv, hbg, hg, hnc, hcm, hcs, htake⟩
    · simp only [Value.slice.injEq] at hv
      obtain ⟨rfl, rfl, rfl⟩ := hv
      have hx0 : xs = [] := List.eq_nil_of_length_eq_zero hlx
      exact grow [] (by simpa using run_firstCells_none (P := Try.prog) w.drew i0.size 0 0 0) hx0.symm (by omega)
    · simp only [Value.slice.injEq, true_and] at hv
      obtain ⟨rfl, rfl⟩ := hv
      by_cases hroom : n + s.size ≤ cap
      · have hbc : byteCells s = bytesV s.data.toList := rfl
        have hst := run_storeCells_at Try.prog g n 5 (byteCells s) 0 cur w hg (by rw [byteCells_length]; omega) hsrc.one
        simp only [Nat.add_zero] at hst
        have hr : (Builtin.append_ #[24, 9] ty #[.slice (some ⟨g, 0, none⟩) n cap, .string s]).run Try.prog w = .ok (.slice (some ⟨g, 0, none⟩) (n + s.size) cap) (w.setRow g (cur.toList.take n ++ byteCells s ++ cur.toList.drop (n + (byteCells s).length)).toArray) := by
          have hc2 := hsrc.cells
          rw [hz1] at hc2
          simp [Builtin.append_, run_underlying Try.underlying24, run_underlying Try.underlying9, sizeOf, typeInfo, hi, hsrc.len, hroom, hc2, hz1, Addr.add_lit, hst]
        refine ⟨_, _, hr, ⟨by rw [List.length_append, hlx, hbl]; omega, .inr ⟨g, cap, _, rfl, hbg, setRow_heap w g cur _ 5 _ hg, hroom, hcm, ?_, ?_⟩⟩, ⟨rfl, rfl, rfl, by simp, fun k _ hk => setRow_other w g k _ (fun e => hk (by simp [Value.ownBlock, e]))⟩⟩
        · simp only [List.size_toArray, List.length_append, List.length_take, List.length_drop, Array.length_toList, byteCells_length]
          omega
        · rw [show cur.toList.take n = xs from by rw [← htake, Nat.mul_one], hbc]
          rw [show (n + s.size) * 1 = (xs ++ bytesV s.data.toList).length from by rw [List.length_append, hlx, hbl]; omega]
          exact List.take_left
      · have holds : ∀ j u, xs[j]? = some u → w.cell? ((⟨g, 0, none⟩ : Addr).add j) = some u := hown.cells (g := g) rfl
        exact grow xs (run_firstCells_some w.drew i0.size n ⟨g, 0, none⟩ n cap xs (by rw [hz1]; omega) (by simpa using holds)) rfl (by omega)

end Go.Proofs.Ytjobhlncllfdmaa
