/- Contracts of the reference's small functions. -/
import Derived.Test.YtjobhlncllfdmaaRows
import Derived.WalkKit
import Derived.WalkSpells
import Derived.WalkLawsBesides
import Derived.Deep.QuietTactic
import Derived.BigQuiet
namespace Go.Proofs.Ytjobhlncllfdmaa
open Go.RowKit

theorem ret_int {k : IntKind} {a b : Int} (h : a = b) : Ending.returned (.int k a) = .returned (.int k b) := by rw [h]
theorem ret_bool {a b : Bool} (h : a = b) : Ending.returned (.bool a) = .returned (.bool b) := by rw [h]

set_option maxHeartbeats 400000 in
theorem power_any (n : Nat) (w : World) (hn : n ≤ 24) :
    Calls Try.prog 45 #[.int .i64 n] w fun e w' => e = .returned (.int .i64 ((2 ^ n : Nat) : Int)) ∧ w' = w := by
  go_enter Try.func45, Try.ntmps45
  go_wp2
  go_loop [3, 4] (fun p i => ∃ k q : Nat, k ≤ n ∧ Hid (q = 2 ^ k) ∧ i = .int .i64 k ∧ p = .int .i64 q) (fun _ i => n - (intOf i).toNat)
  case atStart => exact ⟨0, 1, Nat.zero_le _, rfl, rfl, rfl⟩
  case round =>
    obtain ⟨k, q, hk, Hq, rfl, rfl⟩ := hrel
    have hb : q ≤ 16777216 := by rw [Hq.out]; exact Nat.le_trans (Nat.pow_le_pow_right (by omega) (Nat.le_trans hk hn)) (by decide)
    go_wp2
    · go_round
      case rel => exact ⟨k + 1, 2 * q, by omega, by rw [Hq.out, Nat.pow_succ]; exact Nat.mul_comm _ _, by go_num, by go_num⟩
      case measure => simp [intOf]; omega
    · have : k = n := by omega
      subst this
      go_ret
      exact ⟨ret_int (by rw [Hq.out]; simp), rfl⟩

/-- a power of two, behind a name that the walk does not open -/
def pow2 (n : Nat) : Nat := 2 ^ n
theorem pow2_pos (n : Nat) : 1 ≤ pow2 n := Nat.one_le_two_pow
theorem pow2_le (n : Nat) (h : n ≤ 24) : pow2 n ≤ 16777216 := Nat.le_trans (Nat.pow_le_pow_right (by omega) h) (by decide)

theorem power_int (n : Int) (w : World) (h0 : 0 ≤ n) (hn : n ≤ 24) :
    Calls Try.prog 45 #[.int .i64 n] w fun e w' => e = .returned (.int .i64 ((pow2 n.toNat : Nat) : Int)) ∧ w' = w := by
  obtain ⟨m, rfl⟩ := Int.eq_ofNat_of_zero_le h0
  rw [Int.toNat_natCast]
  exact power_any m w (by omega)

end Go.Proofs.Ytjobhlncllfdmaa
