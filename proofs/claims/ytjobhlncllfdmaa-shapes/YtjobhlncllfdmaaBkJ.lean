/- sameColumns: its contract. -/
import Derived.Test.YtjobhlncllfdmaaLkB
namespace Go.Proofs.Ytjobhlncllfdmaa
open Go.RowKit

set_option maxHeartbeats 1000000 in
set_option maxRecDepth 100000 in
theorem sameCols (a1 a2 : Option Addr) (c1 c2 : Nat) (cs : List Pu.Col) (B1 B2 : Nat) (w : World) (h1 : w.ownsRow B1 45 3 (.slice a1 cs.length c1) cs.length (colsV cs)) (h2 : w.ownsRow B2 45 3 (.slice a2 cs.length c2) cs.length (colsV cs)) (hx : cs.length ≤ 100000) :
    Calls Try.prog 26 #[.slice a1 cs.length c1, .slice a2 cs.length c2] w fun e w' => e = .returned (.bool true) ∧ ∃ n, w' = w.drewN n := by
  have HC1 : Hid (∀ k, (hk : k < cs.length) → ∃ g, a1 = some ⟨g, 0, none⟩ ∧ w.cell? ⟨g, k * 3, none⟩ = some (strV cs[k].name) ∧ w.cell? ⟨g, k * 3 + 1, none⟩ = some (.int .i64 (cs[k].kind : Int)) ∧ w.cell? ⟨g, k * 3 + 2, none⟩ = some (.bool cs[k].opt)) := cols_cell h1
  have HC2 : Hid (∀ k, (hk : k < cs.length) → ∃ g, a2 = some ⟨g, 0, none⟩ ∧ w.cell? ⟨g, k * 3, none⟩ = some (strV cs[k].name) ∧ w.cell? ⟨g, k * 3 + 1, none⟩ = some (.int .i64 (cs[k].kind : Int)) ∧ w.cell? ⟨g, k * 3 + 2, none⟩ = some (.bool cs[k].opt)) := cols_cell h2
  clear h1 h2
  have hnn : ((cs.length : Int) != (cs.length : Int)) = false := by simp
  go_enter Try.func26, Try.ntmps26
  go_wp2
  go_loopw [5] (fun i wr => ∃ k q : Nat, k ≤ cs.length ∧ i = .int .i64 k ∧ wr = w.drewN q) (fun i _ => cs.length - (intOf i).toNat)
  case atStart => exact ⟨0, 0, Nat.zero_le _, rfl, rfl⟩
  case round =>
    obtain ⟨k, q, hk, rfl, rfl⟩ := hrel
    by_cases hk2 : k < cs.length
    · obtain ⟨g1, rfl, d1, d2, d3⟩ := HC1.out k hk2
      obtain ⟨g2, rfl, e1, e2, e3⟩ := HC2.out k hk2
      unfold strV at d1 e1
      generalize (⟨cs[k].name.toArray⟩ : ByteArray) = x at *
      generalize cs[k].kind = y at *
      generalize cs[k].opt = z at *
      go_wp2
      go_quiet (fail)
      go_wp2
      go_roundw
      case rel => exact ⟨k + 1, _, by omega, by go_num, rfl⟩
      case measure => simp [intOf]; omega
    · go_wp2
      go_ret
      exact ⟨rfl, q, rfl⟩
end Go.Proofs.Ytjobhlncllfdmaa
