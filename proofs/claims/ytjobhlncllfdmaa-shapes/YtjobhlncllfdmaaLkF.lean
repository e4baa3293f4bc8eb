/- Contracts of the reference's Low and Ending, and of small. -/
import Derived.Test.YtjobhlncllfdmaaLkE
import Derived.Laws.IdiomStrings
namespace Go.Proofs.Ytjobhlncllfdmaa
open Go.RowKit

/-- a number as n bytes, the lowest first -/
def leB : Nat → Nat → List UInt8
  | 0, _ => []
  | n + 1, x => UInt8.ofNat (x % 256) :: leB n (x / 256)

theorem leB_snoc (k x : Nat) : leB (k + 1) x = leB k x ++ [UInt8.ofNat (x / 256 ^ k % 256)] := by
  induction k generalizing x with
  | zero => simp [leB]
  | succ k ih =>
    rw [leB, ih (x / 256), leB, List.cons_append, Nat.div_div_eq_div_mul, Nat.pow_succ, Nat.mul_comm 256]

theorem length_leB (n x : Nat) : (leB n x).length = n := by
  induction n generalizing x with
  | zero => rfl
  | succ n ih => simp [leB, ih]

theorem bytesV_snoc (D : List UInt8) (b : UInt8) : bytesV D ++ [.int .u8 (b.toNat : Int)] = bytesV (D ++ [b]) := by simp [bytesV]

/-- the text of a row of bytes of one's own -/
theorem text_of_row {w : World} {B g cap : Nat} {D : List UInt8} (h : w.ownsRow B 5 1 (.slice (some ⟨g, 0, none⟩) D.length cap) D.length (bytesV D)) :
    (convert 24 9 (.slice (some ⟨g, 0, none⟩) D.length cap)).run Try.prog w = .ok (.string ⟨D.toArray⟩) w := by
  exact run_convert_bytes_back (P := Try.prog) w 24 9 5 ⟨g, 0, none⟩ cap D Try.underlying24 Try.underlying5 Try.underlying9 (fun j hj => by
    rw [show (⟨g, 0, none⟩ : Addr).add j = ⟨g, j, none⟩ from by unfold Addr.add; split <;> simp_all, h.cellAt j (by omega)]
    simp only [bytesV, List.getElem?_map, List.getElem?_eq_getElem hj, Option.map_some])

set_option maxHeartbeats 2000000 in
set_option maxRecDepth 100000 in
theorem refLow_any (x n : Nat) (w : World) (hx : x ≤ 140737488355328) (hn : n ≤ 8) (hn0 : 0 < n) :
    Calls Try.prog 28 #[.int .i64 x, .int .i64 n] w fun e w' => e = .returned (.string ⟨(leB n x).toArray⟩) ∧ Below w.heap.size w w' := by
  go_enter Try.func28, Try.ntmps28
  go_wp2
  go_loopw [5, 6, 7] (fun v u i wr => ∃ k y : Nat, k ≤ n ∧ i = .int .i64 k ∧ u = .int .u64 y ∧ y ≤ x ∧ Hid (y = x / 256 ^ k) ∧ wr.ownsRow w.heap.size 5 1 v k (bytesV (leB k x)) ∧ Below w.heap.size w wr)
    (fun _ _ i _ => n - (intOf i).toNat)
  case atStart => exact ⟨0, x, Nat.zero_le _, rfl, rfl, Nat.le_refl _, by simp [Hid], World.ownsRow_nil _ _ _ _, Below.refl _ _⟩
  case round =>
    obtain ⟨k, y, hk, rfl, rfl, hyx, Hy, hown, hbel⟩ := hrel
    obtain ⟨ao, cap, rfl⟩ := slen_of hown
    by_cases hk2 : k < n
    · obtain ⟨i0, hi, hz0, hz1, hz2⟩ := info_parts Try.info5
      go_wp2_with (first
        | (at_builtin; refine wpList_append_own _ rfl _ _ 24 rfl w.heap.size 5 i0 (.int .u8 0) 1 1 Try.underlying24 hi hz0 hz1 hz2 rfl (by decide) _ _ _ rfl (hown.alloc _) ⟨_, 0, none⟩ 1 1 [.int .u8 ((y : Int) % 256)] rfl rfl ?c1 ?c2 ?c3 ?c4 ?c5 ?_)
        | go_in)
      case c1 => exact one_new rfl
      case c2 => exact one_cell
      case c3 => unfold maxLen; omega
      case c4 => omega
      case c5 => rw [size_alloc']; have := hbel.size; omega
      intro v' w1 hown3 hg _
      have hbel3 := below_append hbel (Nat.le_refl _) hg (fun k e => (hown.lt k e).1)
      have hb : ((y : Int) % 256) = ((UInt8.ofNat (y % 256)).toNat : Int) := by
        rw [UInt8.toNat_ofNat', Nat.mod_eq_of_lt (by omega)]; simp
      have Hy2 : Hid (y / 256 = x / 256 ^ (k + 1)) := by rw [Hid, Hy.out, Nat.div_div_eq_div_mul, Nat.pow_succ]
      rw [hb, bytesV_snoc, Hy.out, ← leB_snoc] at hown3
      clear hg hown hbel hb Hy
      go_wp2
      go_roundw
      case rel => exact ⟨k + 1, y / 256, by omega, by go_num, by go_num, by omega, Hy2, hown3, hbel3⟩
      case measure => simp [intOf]; omega
    · obtain rfl : k = n := by omega
      have hl := length_leB k x
      obtain ⟨g, cap', hv, _, _⟩ := hown.form (by omega)
      simp only [Value.slice.injEq] at hv
      obtain ⟨rfl, _, rfl⟩ := hv
      have hown' : wr.ownsRow w.heap.size 5 1 (.slice (some ⟨g, 0, none⟩) (leB k x).length cap) (leB k x).length (bytesV (leB k x)) := by rw [hl]; exact hown
      have hcv := text_of_row hown'
      rw [hl] at hcv
      clear hown hown' hl
      go_wp2
      go_ret
      exact ⟨rfl, hbel⟩

def endL (D : List UInt8) : List UInt8 := D ++ leB 4 D.length ++ leB 4 (Pu.sum D) ++ stra

theorem bytes_ext {a b : ByteArray} (h : a.data.toList = b.data.toList) : a = b := by
  cases a; cases b; simp only [ByteArray.mk.injEq]; exact Array.ext' h

set_option maxHeartbeats 2000000 in
set_option maxRecDepth 100000 in
theorem ending_any (s : ByteArray) (w : World) (hs : s.size ≤ 140737488354000) :
    Calls Try.prog 12 #[.string s] w fun e w' => e = .returned (.string ⟨(endL s.data.toList).toArray⟩) ∧ Below w.heap.size w w' := by
  obtain ⟨q, hq⟩ : ∃ q, q = Pu.sum s.data.toList := ⟨_, rfl⟩
  have hql : q < 4294967296 := by rw [hq]; exact Pu.sum_lt _
  have SUM : Hid (∀ W : World, Calls Try.prog 29 #[.string s] W fun e w' => e = .returned (.int .u32 (q : Int)) ∧ w' = W) := fun W => by rw [hq]; exact refSum_any _ W (by omega)
  have L1 : Hid (∀ W : World, Calls Try.prog 28 #[.int .i64 (s.size : Int), .int .i64 4] W fun e w' => e = .returned (.string ⟨(leB 4 s.size).toArray⟩) ∧ Below W.heap.size W w') := fun W => refLow_any s.size 4 W (by omega) (by omega) (by omega)
  have L2 : Hid (∀ W : World, Calls Try.prog 28 #[.int .i64 (q : Int), .int .i64 4] W fun e w' => e = .returned (.string ⟨(leB 4 q).toArray⟩) ∧ Below W.heap.size W w') := fun W => refLow_any q 4 W (by omega) (by omega) (by omega)
  have HE : Hid (endL s.data.toList = s.data.toList ++ leB 4 s.size ++ leB 4 q ++ stra) := by rw [Hid, hq]; simp [endL]
  have z1 : (⟨(leB 4 s.size).toArray⟩ : ByteArray).size = 4 := by rw [← len_data]; simp [length_leB]
  have z2 : (⟨(leB 4 q).toArray⟩ : ByteArray).size = 4 := by rw [← len_data]; simp [length_leB]
  have D1 : Hid ((⟨(leB 4 s.size).toArray⟩ : ByteArray).data.toList = leB 4 s.size) := by simp [Hid]
  have D2 : Hid ((⟨(leB 4 q).toArray⟩ : ByteArray).data.toList = leB 4 q) := by simp [Hid]
  generalize (⟨(leB 4 s.size).toArray⟩ : ByteArray) = t1 at *
  generalize (⟨(leB 4 q).toArray⟩ : ByteArray) = t2 at *
  clear hq
  go_enter Try.func12, Try.ntmps12
  go_wp2_with fail
  refine (L1.out _).mono ?_
  rintro e w1 ⟨rfl, hb1⟩
  go_wp2_with fail
  refine (SUM.out _).mono ?_
  rintro e w' ⟨rfl, hw'⟩
  subst w'
  go_wp2_with fail
  refine (L2.out _).mono ?_
  rintro e w2 ⟨rfl, hb2⟩
  go_wp2
  go_ret
  refine ⟨?_, hb1.trans (hb2.mono hb1.size)⟩
  refine congrArg (fun t => Ending.returned (.string t)) (bytes_ext ?_)
  simp only [ByteArray.data_append, Array.toList_append]
  rw [D1.out, D2.out, HE.out]
  simp [stra]

theorem size_endL (D : List UInt8) : (endL D).length = D.length + 12 := by simp [endL, length_leB, stra]

def smallL : List UInt8 := stra ++ endL [1, 1, 97, 1, 0]

theorem small_list : smallL = [83, 84, 82, 65, 1, 1, 97, 1, 0, 5, 0, 0, 0, 158, 41, 240, 19, 83, 84, 82, 65] := by kernel_rfl
theorem small_look' : Pu.look [83, 84, 82, 65, 1, 1, 97, 1, 0, 5, 0, 0, 0, 158, 41, 240, 19, 83, 84, 82, 65] = .good 4 [⟨[97], 1, false⟩] [] := by kernel_rfl
theorem small_look : Pu.look smallL = .good 4 [⟨[97], 1, false⟩] [] := by rw [small_list]; exact small_look'

set_option maxHeartbeats 2000000 in
set_option maxRecDepth 100000 in
theorem small_any (w : World) : Calls Try.prog 10 #[] w fun e w' => e = .returned (.string ⟨smallL.toArray⟩) ∧ Below w.heap.size w w' := by
  have E1 : Hid (∀ W : World, Calls Try.prog 12 #[.string ⟨#[1, 1, 97, 1, 0]⟩] W fun e w' => e = .returned (.string ⟨(endL [1, 1, 97, 1, 0]).toArray⟩) ∧ Below W.heap.size W w') := fun W => ending_any ⟨#[1, 1, 97, 1, 0]⟩ W (by decide)
  have z1 : (⟨(endL [1, 1, 97, 1, 0]).toArray⟩ : ByteArray).size = 17 := by rw [← len_data]; simp [size_endL]
  have D1 : Hid ((⟨(endL [1, 1, 97, 1, 0]).toArray⟩ : ByteArray).data.toList = endL [1, 1, 97, 1, 0]) := by simp [Hid]
  generalize (⟨(endL [1, 1, 97, 1, 0]).toArray⟩ : ByteArray) = t1 at *
  go_enter Try.func10, Try.ntmps10
  go_wp2_with fail
  refine (E1.out _).mono ?_
  rintro e w1 ⟨rfl, hb1⟩
  go_wp2
  go_ret
  refine ⟨?_, hb1⟩
  refine congrArg (fun t => Ending.returned (.string t)) (bytes_ext ?_)
  simp only [ByteArray.data_append, Array.toList_append]
  rw [D1.out]
  rfl

end Go.Proofs.Ytjobhlncllfdmaa
