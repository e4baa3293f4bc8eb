/- The program's sums: shiftByte, Of. -/
import Derived.Test.YtjobhlncllfdmaaFtD
namespace Go.Proofs.Ytjobhlncllfdmaa
open Go.RowKit

set_option maxHeartbeats 1000000 in
set_option maxRecDepth 100000 in
theorem shift_any (n : Nat) (w : World) (hn : n < 4294967296) :
    Calls Try.prog 84 #[.int .u32 (n : Int)] w fun e w' => e = .returned (.int .u32 ((Pu.stN 8 n : Nat) : Int)) ∧ w' = w := by
  go_enter Try.func84, Try.ntmps84
  go_wp2
  go_loop [0, 4] (fun x i => ∃ j y : Nat, j ≤ 8 ∧ y < 4294967296 ∧ Hid (Pu.stN 8 n = Pu.stN (8 - j) y) ∧ x = .int .u32 (y : Int) ∧ i = .int .i64 j) (fun _ i => 8 - (intOf i).toNat)
  case atStart => exact ⟨0, n, by omega, hn, rfl, rfl, rfl⟩
  case round =>
    obtain ⟨j, y, hj, hy, Hy, rfl, rfl⟩ := hrel
    by_cases hj8 : j < 8
    · obtain ⟨h, hh⟩ : ∃ h, h = y / 2 := ⟨_, rfl⟩
      have hh2 : (y : Int) / 2 = (h : Int) := by omega
      have hst : Pu.stN (8 - j) y = Pu.stN (8 - (j + 1)) (Pu.st y) := by rw [show 8 - j = (8 - (j + 1)) + 1 by omega]; rfl
      have hand : bits .and .u32 (y : Int) 1 = ((y % 2 : Nat) : Int) := by
        have := u32_and_nat y 1 hy (by omega)
        rw [Nat.and_two_pow_sub_one_eq_mod y 1] at this
        exact this
      by_cases hodd : y % 2 = 1
      · rw [hodd] at hand
        obtain ⟨z, hz⟩ : ∃ z, z = h ^^^ 3988292384 := ⟨_, rfl⟩
        have hxor2 : bits .xor .u32 (h : Int) 3988292384 = (z : Int) := by rw [hz]; exact u32_xor_nat h 3988292384 (by omega) (by omega)
        have hzl : z < 4294967296 := by rw [hz]; exact Nat.xor_lt_two_pow (n := 32) (by omega) (by omega)
        have HY : Hid (Pu.stN 8 n = Pu.stN (8 - (j + 1)) z) := by rw [Hid, Hy.out, hst, hz, hh]; unfold Pu.st; rw [if_pos hodd]
        clear hst hz hodd hh
        go_wp2
        go_round
        case rel => exact ⟨j + 1, z, by omega, hzl, HY, rfl, by go_num⟩
        case measure => simp [intOf]; omega
      · have h0 : y % 2 = 0 := by omega
        rw [h0] at hand
        have hhl : h < 4294967296 := by omega
        have HY : Hid (Pu.stN 8 n = Pu.stN (8 - (j + 1)) h) := by rw [Hid, Hy.out, hst, hh]; unfold Pu.st; rw [if_neg hodd]
        clear hst hodd hh h0
        go_wp2
        go_round
        case rel => exact ⟨j + 1, h, by omega, hhl, HY, rfl, by go_num⟩
        case measure => simp [intOf]; omega
    · obtain rfl : j = 8 := by omega
      have HY : Hid (Pu.stN 8 n = y) := by rw [Hid, Hy.out]; rfl
      go_wp2
      go_ret
      exact ⟨ret_int (by rw [HY.out]), rfl⟩

set_option maxHeartbeats 1000000 in
set_option maxRecDepth 100000 in
theorem of_any (lb : Nat) (ao : Option Addr) (cap : Nat) (L : List UInt8) (w : World) (h : Rest w lb ao cap L) :
    Calls Try.prog 66 #[.slice ao L.length cap] w fun e w' => e = .returned (.int .u32 ((Pu.sum L : Nat) : Int)) ∧ w' = w := by
  have hLm : L.length ≤ 9223372036854775807 := by have h1 := h.1; have h2 := h.2.1; unfold maxLen at h2; omega
  have HC : Hid (∀ k, k < L.length → ∃ o, ao = some ⟨lb, o, none⟩ ∧ w.cell? ⟨lb, o + k, none⟩ = some (.int .u8 (Pu.byteAt L k : Int))) := fun k hk => by
    obtain ⟨_, _, h3⟩ := h
    rcases h3 with rfl | ⟨o, rfl, hc⟩
    · simp at hk
    · exact ⟨o, rfl, hc k hk⟩
  have SH : Hid (∀ n : Nat, n < 4294967296 → ∀ W : World, Calls Try.prog 84 #[.int .u32 (n : Int)] W fun e w' => e = .returned (.int .u32 ((Pu.stN 8 n : Nat) : Int)) ∧ w' = W) := fun n hn W => shift_any n W hn
  clear h
  go_enter Try.func66, Try.ntmps66
  go_wp2
  go_loop [3, 8] (fun x i => ∃ k y : Nat, k ≤ L.length ∧ y < 4294967296 ∧ Hid (y = Pu.sumGo 4294967295 (L.take k)) ∧ x = .int .u32 (y : Int) ∧ i = .int .i64 k) (fun _ i => L.length - (intOf i).toNat)
  case atStart => exact ⟨0, 4294967295, Nat.zero_le _, by omega, rfl, rfl, rfl⟩
  case round =>
    obtain ⟨k, y, hk, hy, Hy, rfl, rfl⟩ := hrel
    by_cases hk2 : k < L.length
    · obtain ⟨o, rfl, hc⟩ := HC.out k hk2
      obtain ⟨b, hb⟩ : ∃ b, b = Pu.byteAt L k := ⟨_, rfl⟩
      have hbl : b < 256 := by rw [hb]; exact Pu.byteAt_lt _ _
      rw [← hb] at hc
      obtain ⟨z, hz⟩ : ∃ z, z = y ^^^ b := ⟨_, rfl⟩
      have hxor : bits .xor .u32 (y : Int) (b : Int) = (z : Int) := by rw [hz]; exact u32_xor_nat y b hy (by omega)
      have hzl : z < 4294967296 := by rw [hz]; exact Nat.xor_lt_two_pow (n := 32) (by omega) (by omega)
      have hnl := Pu.stN_lt 8 z hzl
      have Hnew : Hid (Pu.stN 8 z = Pu.sumGo 4294967295 (L.take (k + 1))) := by
        rw [Hid, take_snoc' _ _ hk2, sumGo_snoc, ← Hy.out, hz]
        unfold Pu.crc
        rw [hb]
        simp only [Pu.byteAt, List.getD_eq_getElem?_getD, List.getElem?_eq_getElem hk2, Option.getD_some]
      obtain ⟨q, hq⟩ : ∃ q, q = Pu.stN 8 z := ⟨_, rfl⟩
      have S2 : Hid (∀ W : World, Calls Try.prog 84 #[.int .u32 (z : Int)] W fun e w' => e = .returned (.int .u32 (q : Int)) ∧ w' = W) := fun W => by rw [hq]; exact SH.out z hzl W
      rw [← hq] at hnl Hnew
      clear hz hb hq
      go_wp2_with fail
      refine (S2.out _).mono ?_
      rintro e w' ⟨rfl, hw'⟩
      subst w'
      go_wp2
      go_round
      case rel => exact ⟨k + 1, q, by omega, hnl, Hnew, rfl, by go_num⟩
      case measure => simp [intOf]; omega
    · obtain rfl : k = L.length := by omega
      have HS : Hid (Pu.sum L = y ^^^ 4294967295) := by
        have e : Pu.sumGo 4294967295 L = y := by rw [Hy.out, List.take_length]
        unfold Hid Pu.sum
        rw [e]
      go_wp2
      go_ret
      refine ⟨ret_int ?_, rfl⟩
      rw [HS.out, show IntKind.u32.max = ((4294967295 : Nat) : Int) from rfl, u32_xor_nat 4294967295 y (by omega) hy, Nat.xor_comm]

end Go.Proofs.Ytjobhlncllfdmaa
