/- Lemmas for the reference's Runs. -/
import Derived.Test.YtjobhlncllfdmaaRefC
namespace Go.Proofs.Ytjobhlncllfdmaa
open Go.RowKit

def slen : Value → Nat | .slice _ n _ => n | _ => 0
def ints (xs : List Nat) : List Value := xs.map fun (n : Nat) => Value.int .i64 (n : Int)
theorem Try.info3 : (Try.prog.info? 3).map (fun i => (i.zero, i.size, i.bytes)) = some (some (.int .i64 0), 1, 8) := by kernel_rfl

theorem slen_of {w : World} {base e size : Nat} {v : Value} {n : Nat} {xs : List Value} (h : w.ownsRow base e size v n xs) : ∃ ao cap, v = .slice ao n cap := by
  rcases h.2 with ⟨rfl, rfl⟩ | ⟨g, cap, cur, rfl, _⟩
  · exact ⟨none, 0, rfl⟩
  · exact ⟨_, _, rfl⟩

theorem one_new {w : World} {B : Nat} {e : TypeId} {x : Value} (hB : B = w.heap.size) : ∀ (j : Nat) (u : Value), [x][j]? = some u → (w.alloc (Obj.cells #[x] e)).cell? ((⟨B, 0, none⟩ : Addr).add j) = some u := by
  intro j u hj
  subst hB
  match j, hj with
  | 0, hj => simp at hj; subst hj; simp [Addr.add]
theorem one_cell {k : IntKind} {x : Int} : ∀ (u : Value), u ∈ [Value.int k x] → u.oneCell' = true := by
  intro u hu; simp at hu; subst hu; rfl
theorem size_alloc' (w : World) (o : Obj) : (w.alloc o).heap.size = w.heap.size + 1 := by simp
theorem ints_snoc (xs : List Nat) (x : Nat) : ints xs ++ [Value.int .i64 x] = ints (xs ++ [x]) := by simp [ints]
theorem rep_snoc (xs : List Nat) (k x : Nat) : xs ++ List.replicate k x ++ [x] = xs ++ List.replicate (k + 1) x := by
  rw [List.append_assoc, List.replicate_succ']
theorem below_append {B : Nat} {w wr w1 : World} {o : Obj} {row : Option Nat} (h : Below B w wr) (hB : B ≤ w.heap.size) (hg : (wr.alloc o).grownBy w1 row) (hr : ∀ k, row = some k → B ≤ k) : Below B w w1 :=
  (h.alloc (Nat.le_trans hB h.size) o).grown hg (by rw [size_alloc']; have := h.size; omega) hr

theorem power_nat (n : Nat) (w : World) (hn : n ≤ 24) :
    Calls Try.prog 45 #[.int .i64 n] w fun e w' => e = .returned (.int .i64 ((pow2 n : Nat) : Int)) ∧ w' = w := power_any n w hn

theorem rs_done {D : List UInt8} {W C f a : Nat} {xs : List Nat} (h : ¬ xs.length < C) : Pu.rs D W C f a xs = some (xs, a) := by
  unfold Pu.rs; rw [if_neg h]
theorem rs_no {D : List UInt8} {W C f a : Nat} {xs : List Nat} (h : xs.length < C) (hs : Pu.step D W C a xs = none) : Pu.rs D W C f a xs = none := by
  unfold Pu.rs; rw [if_pos h]; cases f with
  | zero => rfl
  | succ f => simp [hs]
theorem rs_yes {D : List UInt8} {W C f a a' : Nat} {xs o : List Nat} (h : xs.length < C) (hf : C ≤ xs.length + f) (hs : Pu.step D W C a xs = some (a', o)) : Pu.rs D W C f a xs = Pu.rs D W C (f - 1) a' o := by
  obtain ⟨g, rfl⟩ : ∃ g, f = g + 1 := ⟨f - 1, by omega⟩
  rw [Pu.rs, if_pos h]
  simp [hs]
theorem step_vi {D : List UInt8} {W C a : Nat} {xs : List Nat} (h : Pu.vi D a = none) : Pu.step D W C a xs = none := by simp [Pu.step, h]
theorem step_two {D : List UInt8} {W C a h nx : Nat} {xs : List Nat} (hv : Pu.vi D a = some (h, nx)) (h2 : h < 2) : Pu.step D W C a xs = none := by simp [Pu.step, hv, h2]
theorem step_lo {D : List UInt8} {W C a h nx : Nat} {xs : List Nat} (hv : Pu.vi D a = some (h, nx)) (h2 : ¬ h < 2) (hm : h % 2 = 0) (hl : Pu.lo D nx ((W + 7) / 8) = none) : Pu.step D W C a xs = none := by
  simp [Pu.step, hv, h2, hm, hl]
theorem step_eq_no {D : List UInt8} {W C a h nx x : Nat} {xs : List Nat} (hv : Pu.vi D a = some (h, nx)) (h2 : ¬ h < 2) (hm : h % 2 = 0) (hl : Pu.lo D nx ((W + 7) / 8) = some x) (hb : 2 ^ W ≤ x ∨ C - xs.length < h / 2) : Pu.step D W C a xs = none := by
  simp only [Pu.step, hv, hl]; rw [if_neg h2, if_pos hm, if_pos hb]
theorem step_eq {D : List UInt8} {W C a h nx x : Nat} {xs : List Nat} (hv : Pu.vi D a = some (h, nx)) (h2 : ¬ h < 2) (hm : h % 2 = 0) (hl : Pu.lo D nx ((W + 7) / 8) = some x) (hb : ¬ (2 ^ W ≤ x ∨ C - xs.length < h / 2)) :
    Pu.step D W C a xs = some (nx + (W + 7) / 8, xs ++ List.replicate (h / 2) x) := by
  simp only [Pu.step, hv, hl]; rw [if_neg h2, if_pos hm, if_neg hb]
theorem step_8_no {D : List UInt8} {W C a h nx : Nat} {xs : List Nat} (hv : Pu.vi D a = some (h, nx)) (h2 : ¬ h < 2) (hm : ¬ h % 2 = 0) (hb : C - xs.length ≤ 8 * (h / 2) - 8 ∨ D.length < nx + h / 2 * W) : Pu.step D W C a xs = none := by
  simp only [Pu.step, hv]; rw [if_neg h2, if_neg hm, if_pos hb]
theorem step_8 {D : List UInt8} {W C a h nx : Nat} {xs : List Nat} (hv : Pu.vi D a = some (h, nx)) (h2 : ¬ h < 2) (hm : ¬ h % 2 = 0) (hb : ¬ (C - xs.length ≤ 8 * (h / 2) - 8 ∨ D.length < nx + h / 2 * W)) :
    Pu.step D W C a xs = if ((Pu.nums (Pu.piece D nx (h / 2 * W)) W (8 * (h / 2))).drop (C - xs.length)).all (· == 0) then some (nx + h / 2 * W, xs ++ (Pu.nums (Pu.piece D nx (h / 2 * W)) W (8 * (h / 2))).take (C - xs.length)) else none := by
  simp only [Pu.step, hv]; rw [if_neg h2, if_neg hm, if_neg hb]

/-- what the reference's Runs answers -/
def RunsAns (base : Nat) (r : Option (List Nat × Nat)) (e : Ending) (w' : World) : Prop :=
  match r with
  | none => e = .returned (.tuple #[.slice none 0 0, .int .i64 0, .bool false])
  | some (xs, a) => ∃ v, e = .returned (.tuple #[v, .int .i64 a, .bool true]) ∧ w'.ownsRow base 3 1 v xs.length (ints xs)

theorem ownsRow_drewN {w : World} {base : Nat} {e : TypeId} {size : Nat} {v : Value} {n : Nat} {xs : List Value} (h : w.ownsRow base e size v n xs) (q : Nat) : (w.drewN q).ownsRow base e size v n xs := h

theorem bit_int (s : ByteArray) (i : Int) (w : World) (hs : s.size ≤ maxLen) (h0 : 0 ≤ i) (hi : i.toNat / 8 < s.size) (hi2 : i ≤ 1000000000000) :
    Calls Try.prog 46 #[.string s, .int .i64 i] w fun e w' => e = .returned (.int .i64 (Pu.bitAt s.data.toList i.toNat)) ∧ ∃ n, w' = w.drewN n := by
  obtain ⟨m, rfl⟩ := Int.eq_ofNat_of_zero_le h0
  rw [Int.toNat_natCast] at *
  exact bit_any s m w hs hi (by omega)

theorem bit_ex (s : ByteArray) (L : List UInt8) (HL : Hid (L = s.data.toList)) (i : Int) (w : World) (hs : s.size ≤ maxLen) (h0 : 0 ≤ i) (hi : i.toNat / 8 < s.size) (hi2 : i ≤ 1000000000000) :
    Calls Try.prog 46 #[.string s, .int .i64 i] w fun e w' => ∃ b q : Nat, e = .returned (.int .i64 b) ∧ b < 2 ∧ Hid (b = Pu.bitAt L i.toNat) ∧ w' = w.drewN q := by
  refine (bit_int s i w hs h0 hi hi2).mono ?_
  rintro e w' ⟨he, q, hw⟩
  exact ⟨_, q, he, Pu.bitAt_lt _ _, by rw [Hid, HL.out], hw⟩

theorem extract_list (s : ByteArray) (a p : Nat) (_h : a + p ≤ s.size) : (s.extract a (a + p)).data.toList = Pu.piece s.data.toList a p := by
  rw [ByteArray.data_extract, Array.toList_extract]
  simp [Pu.piece, List.extract_eq_take_drop]

theorem nTop_step (L : List UInt8) (q j W : Nat) (h : j < W) : Pu.nTop L q j (W - j) = Pu.bitAt L (q + j) + 2 * Pu.nTop L q (j + 1) (W - (j + 1)) := by
  rw [show W - j = (W - (j + 1)) + 1 by omega]; rfl

theorem nTop_lt (L : List UInt8) (q j m : Nat) : Pu.nTop L q j m < 2 ^ m := by
  induction m generalizing j with
  | zero => simp [Pu.nTop]
  | succ m ih =>
    have := ih (j + 1)
    have hb := Pu.bitAt_lt L (q + j)
    simp only [Pu.nTop, Nat.pow_succ]
    omega

/-- what a round of the eights does to what was gathered -/
theorem gath_lt (L : List UInt8) (W i M : Nat) (h : i < M) : (Pu.nums L W (i + 1)).take M = (Pu.nums L W i).take M ++ [Pu.nAt L (i * W) W] := by
  rw [List.take_of_length_le (by rw [Pu.length_nums]; omega), List.take_of_length_le (by rw [Pu.length_nums]; omega), Pu.nums_succ]
theorem gath_ge (L : List UInt8) (W i M : Nat) (h : M ≤ i) : (Pu.nums L W (i + 1)).take M = (Pu.nums L W i).take M := by
  rw [Pu.take_nums _ _ _ _ (by omega), Pu.take_nums _ _ _ _ h]
theorem zero_lt (L : List UInt8) (W i M : Nat) (h : i < M) : ((Pu.nums L W (i + 1)).drop M).all (· == 0) = true := by
  rw [List.drop_of_length_le (by rw [Pu.length_nums]; omega)]; rfl
theorem zero_ge (L : List UInt8) (W i M : Nat) (h : M ≤ i) : ((Pu.nums L W (i + 1)).drop M).all (· == 0) = (((Pu.nums L W i).drop M).all (· == 0) && Pu.nAt L (i * W) W == 0) := by
  rw [Pu.nums_succ, List.drop_append_of_le_length (by rw [Pu.length_nums]; exact h)]
  simp
theorem zero_no {L : List UInt8} {W i M n : Nat} (hM : M ≤ i) (hi : i < n) (h : Pu.nAt L (i * W) W ≠ 0) : ((Pu.nums L W n).drop M).all (· == 0) = false := by
  rw [List.all_eq_false]
  refine ⟨Pu.nAt L (i * W) W, ?_, by simpa using h⟩
  rw [List.mem_iff_getElem]
  refine ⟨i - M, by rw [List.length_drop, Pu.length_nums]; omega, ?_⟩
  rw [List.getElem_drop]
  simp only [Pu.nums, List.getElem_map, List.getElem_range]
  rw [show M + (i - M) = i by omega]

end Go.Proofs.Ytjobhlncllfdmaa
