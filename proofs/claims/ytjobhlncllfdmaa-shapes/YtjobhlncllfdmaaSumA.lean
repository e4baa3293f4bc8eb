/- Contract of the reference's Sum. -/
import Derived.Test.YtjobhlncllfdmaaRefC
import Derived.Test.YtjobhlncllfdmaaPurg
namespace Go.Proofs.Ytjobhlncllfdmaa
open Go.RowKit

theorem take_snoc' (D : List UInt8) (k : Nat) (h : k < D.length) : D.take (k + 1) = D.take k ++ [D[k]] := by
  rw [List.take_succ_eq_append_getElem h]
theorem sumGo_snoc (n : Nat) (D : List UInt8) (b : UInt8) : Pu.sumGo n (D ++ [b]) = Pu.crc (Pu.sumGo n D) b := by simp [Pu.sumGo]

set_option maxHeartbeats 1000000 in
set_option maxRecDepth 100000 in
theorem refSum_any (s : ByteArray) (w : World) (hs : s.size ≤ 140737488355000) :
    Calls Try.prog 29 #[.string s] w fun e w' => e = .returned (.int .u32 (Pu.sum s.data.toList)) ∧ w' = w := by
  have hlen : s.data.toList.length = s.size := by simp
  have Hlen : Hid (s.data.toList.length = s.size) := hlen
  clear hlen
  go_enter Try.func29, Try.ntmps29
  go_wp2
  go_loop [3, 4] (fun n i => ∃ k x : Nat, k ≤ s.size ∧ x < 4294967296 ∧ Hid (x = Pu.sumGo 4294967295 (s.data.toList.take k)) ∧ n = .int .u32 x ∧ i = .int .i64 k) (fun _ i => s.size - (intOf i).toNat)
  case atStart => exact ⟨0, 4294967295, Nat.zero_le _, by omega, rfl, rfl, rfl⟩
  case round =>
    obtain ⟨k, x, hk, hx, Hx, rfl, rfl⟩ := hrel
    by_cases hk2 : k < s.size
    · obtain ⟨b, hb, hbb, HB⟩ := byte_ex s k hk2
      obtain ⟨y0, hy0⟩ : ∃ y0, y0 = x ^^^ b := ⟨_, rfl⟩
      have hxor : bits .xor .u32 (x : Int) (b : Int) = (y0 : Int) := by rw [hy0]; exact u32_xor_nat x b hx (by omega)
      have hyl : y0 < 4294967296 := by rw [hy0]; exact Nat.xor_lt_two_pow (n := 32) (by omega) (by omega)
      have Hnew : Hid (Pu.stN 8 y0 = Pu.sumGo 4294967295 (s.data.toList.take (k + 1))) := by
        rw [Hid, take_snoc' _ _ (by rw [Hlen.out]; exact hk2), sumGo_snoc, ← Hx.out, hy0]
        unfold Pu.crc
        rw [HB.out]
        simp only [Pu.byteAt, List.getD_eq_getElem?_getD, List.getElem?_eq_getElem (show k < s.data.toList.length by rw [Hlen.out]; exact hk2), Option.getD_some]
      clear hy0
      have hkd : decide ((k : Int) < (s.size : Int)) = true := by simp; omega
      go_wp2
      go_loop [3, 5] (fun n i => ∃ j y : Nat, j ≤ 8 ∧ y < 4294967296 ∧ Hid (Pu.stN 8 y0 = Pu.stN (8 - j) y) ∧ n = .int .u32 y ∧ i = .int .i64 j) (fun _ i => 8 - (intOf i).toNat)
      case atStart => exact ⟨0, y0, by omega, hyl, rfl, rfl, rfl⟩
      case round =>
        obtain ⟨j, y, hj, hy, Hy, rfl, rfl⟩ := hrel
        by_cases hj8 : j < 8
        · obtain ⟨h, hh⟩ : ∃ h, h = y / 2 := ⟨_, rfl⟩
          have hh2 : (y : Int) / 2 = (h : Int) := by omega
          have hst : Pu.stN (8 - j) y = Pu.stN (8 - (j + 1)) (Pu.st y) := by rw [show 8 - j = (8 - (j + 1)) + 1 by omega]; rfl
          by_cases hodd : y % 2 = 1
          · have ho : ((y : Int) % 2 == 1) = true := by simp; omega
            obtain ⟨z, hz⟩ : ∃ z, z = h ^^^ 3988292384 := ⟨_, rfl⟩
            have hxor2 : bits .xor .u32 (h : Int) 3988292384 = (z : Int) := by rw [hz]; exact u32_xor_nat h 3988292384 (by omega) (by omega)
            have hzl : z < 4294967296 := by rw [hz]; exact Nat.xor_lt_two_pow (n := 32) (by omega) (by omega)
            have HY : Hid (Pu.stN 8 y0 = Pu.stN (8 - (j + 1)) z) := by rw [Hid, Hy.out, hst, hz, hh]; unfold Pu.st; rw [if_pos hodd]
            clear hst hz hodd hh
            go_wp2
            go_round
            case rel => exact ⟨j + 1, z, by omega, hzl, HY, rfl, by go_num⟩
            case measure => simp [intOf]; omega
          · have ho : ((y : Int) % 2 == 1) = false := by simp; omega
            have hhl : h < 4294967296 := by omega
            have HY : Hid (Pu.stN 8 y0 = Pu.stN (8 - (j + 1)) h) := by rw [Hid, Hy.out, hst, hh]; unfold Pu.st; rw [if_neg hodd]
            clear hst hodd hh
            go_wp2
            go_round
            case rel => exact ⟨j + 1, h, by omega, hhl, HY, rfl, by go_num⟩
            case measure => simp [intOf]; omega
        · obtain rfl : j = 8 := by omega
          have HY : Hid (y = Pu.sumGo 4294967295 (s.data.toList.take (k + 1))) := by rw [Hid, ← Hnew.out, Hy.out]; rfl
          go_wp2
          go_round
          case rel => exact ⟨k + 1, y, by omega, hy, HY, rfl, by go_num⟩
          case measure => simp [intOf]; omega
    · obtain rfl : k = s.size := by omega
      have hxor3 : bits .xor .u32 (x : Int) 4294967295 = ((Pu.sum s.data.toList : Nat) : Int) := by
        rw [show (4294967295 : Int) = ((4294967295 : Nat) : Int) from rfl, u32_xor_nat x 4294967295 hx (by omega), Hx.out, List.take_of_length_le (by rw [Hlen.out]; exact Nat.le_refl _)]
        rfl
      go_wp2
      go_ret
      exact ⟨rfl, rfl⟩
end Go.Proofs.Ytjobhlncllfdmaa
