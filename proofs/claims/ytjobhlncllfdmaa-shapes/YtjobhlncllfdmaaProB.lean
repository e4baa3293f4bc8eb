/- Contracts of lowestFirst and Number. -/
import Derived.Test.YtjobhlncllfdmaaProA
namespace Go.Proofs.Ytjobhlncllfdmaa
open Go.RowKit

theorem or_shift (a b i : Nat) (hb : b < 2 ^ i) : (a * 2 ^ i) ||| b = a * 2 ^ i + b := by
  rw [← Nat.shiftLeft_eq, Nat.shiftLeft_add_eq_or_of_lt hb]

theorem or8 (a b : Nat) (ha : a < 16777216) (hb : b < 256) : bits .or .u32 ((a : Int) * 256 % 4294967296) (b : Int) = ((256 * a + b : Nat) : Int) := by
  have e : (a : Int) * 256 % 4294967296 = ((a * 256 : Nat) : Int) := by omega
  rw [e, u32_or_nat _ _ (by omega) (by omega), show (a * 256 : Nat) = a * 2 ^ 8 from rfl, or_shift a b 8 (by omega)]
  omega
theorem or8' (a b : Nat) (ha : a < 16777216) (hb : b < 256) : bits .or .u32 ((a : Int) * 256) (b : Int) = ((256 * a + b : Nat) : Int) := by
  rw [← or8 a b ha hb]; congr 1; omega
theorem or0 (b : Nat) (hb : b < 256) : bits .or .u32 0 (b : Int) = (b : Int) := by
  have := u32_or_nat 0 b (by omega) (by omega)
  simpa using this

section
variable (lb o cap b0 b1 b2 b3 : Nat) (w : World)
set_option maxHeartbeats 1000000
set_option maxRecDepth 100000

theorem low0 (ao : Option Addr) :
    Calls Try.prog 94 #[.slice ao 0 cap] w fun e w' => e = .returned (.int .u32 0) ∧ w' = w := by
  go_enter Try.func94, Try.ntmps94
  go_wp2
  go_ret
  exact ⟨rfl, rfl⟩

theorem low1 (h0 : w.cell? ⟨lb, o, none⟩ = some (.int .u8 b0)) (k0 : b0 < 256) :
    Calls Try.prog 94 #[.slice (some ⟨lb, o, none⟩) 1 cap] w fun e w' => e = .returned (.int .u32 ((b0 : Nat) : Int)) ∧ w' = w := by
  go_enter Try.func94, Try.ntmps94
  go_wp2
  go_ret
  exact ⟨ret_int (or0 b0 k0), rfl⟩

theorem low2 (h0 : w.cell? ⟨lb, o, none⟩ = some (.int .u8 b0)) (h1 : w.cell? ⟨lb, o + 1, none⟩ = some (.int .u8 b1)) (k0 : b0 < 256) (k1 : b1 < 256) :
    Calls Try.prog 94 #[.slice (some ⟨lb, o, none⟩) 2 cap] w fun e w' => e = .returned (.int .u32 ((b0 + 256 * b1 : Nat) : Int)) ∧ w' = w := by
  go_enter Try.func94, Try.ntmps94
  go_wp2
  go_ret
  refine ⟨ret_int ?_, rfl⟩
  rw [or0 b1 k1, or8 _ _ (by omega) k0]
  omega

theorem low3 (h0 : w.cell? ⟨lb, o, none⟩ = some (.int .u8 b0)) (h1 : w.cell? ⟨lb, o + 1, none⟩ = some (.int .u8 b1)) (h2 : w.cell? ⟨lb, o + 2, none⟩ = some (.int .u8 b2)) (k0 : b0 < 256) (k1 : b1 < 256) (k2 : b2 < 256) :
    Calls Try.prog 94 #[.slice (some ⟨lb, o, none⟩) 3 cap] w fun e w' => e = .returned (.int .u32 ((b0 + 256 * (b1 + 256 * b2) : Nat) : Int)) ∧ w' = w := by
  go_enter Try.func94, Try.ntmps94
  go_wp2
  go_ret
  refine ⟨ret_int ?_, rfl⟩
  rw [or0 b2 k2, or8 _ _ (by omega) k1, or8 _ _ (by omega) k0]
  omega

theorem low4 (h0 : w.cell? ⟨lb, o, none⟩ = some (.int .u8 b0)) (h1 : w.cell? ⟨lb, o + 1, none⟩ = some (.int .u8 b1)) (h2 : w.cell? ⟨lb, o + 2, none⟩ = some (.int .u8 b2)) (h3 : w.cell? ⟨lb, o + 3, none⟩ = some (.int .u8 b3)) (k0 : b0 < 256) (k1 : b1 < 256) (k2 : b2 < 256) (k3 : b3 < 256) :
    Calls Try.prog 94 #[.slice (some ⟨lb, o, none⟩) 4 cap] w fun e w' => e = .returned (.int .u32 ((b0 + 256 * (b1 + 256 * (b2 + 256 * b3)) : Nat) : Int)) ∧ w' = w := by
  go_enter Try.func94, Try.ntmps94
  go_wp2
  go_ret
  refine ⟨ret_int ?_, rfl⟩
  rw [or8' _ _ (by omega) k2, or8 _ _ (by omega) k1, or8 _ _ (by omega) k0]
  omega
end

theorem lowest_any (lb : Nat) (ao : Option Addr) (cap : Nat) (L : List UInt8) (w : World) (h : Rest w lb ao cap L) (hl : L.length ≤ 4) :
    Calls Try.prog 94 #[.slice ao L.length cap] w fun e w' => e = .returned (.int .u32 ((Pu.le L : Nat) : Int)) ∧ w' = w := by
  obtain ⟨h1, h2, h3⟩ := h
  rcases h3 with rfl | ⟨o, rfl, hc⟩
  · exact low0 cap w ao
  · match L, hl, hc with
    | [], _, _ => exact low0 cap w _
    | [x0], _, hc => exact low1 lb o cap x0.toNat w (hc 0 (by simp)) x0.toNat_lt
    | [x0, x1], _, hc => exact low2 lb o cap x0.toNat x1.toNat w (hc 0 (by simp)) (hc 1 (by simp)) x0.toNat_lt x1.toNat_lt
    | [x0, x1, x2], _, hc => exact low3 lb o cap x0.toNat x1.toNat x2.toNat w (hc 0 (by simp)) (hc 1 (by simp)) (hc 2 (by simp)) x0.toNat_lt x1.toNat_lt x2.toNat_lt
    | [x0, x1, x2, x3], _, hc => exact low4 lb o cap x0.toNat x1.toNat x2.toNat x3.toNat w (hc 0 (by simp)) (hc 1 (by simp)) (hc 2 (by simp)) (hc 3 (by simp)) x0.toNat_lt x1.toNat_lt x2.toNat_lt x3.toNat_lt

set_option maxHeartbeats 1000000 in
set_option maxRecDepth 100000 in
theorem number_no (R o n lb : Nat) (ao : Option Addr) (cap : Nat) (L : List UInt8) (w : World) (hr : Rest w lb ao cap L) (hc : w.cell? ⟨R, o, none⟩ = some (.slice ao L.length cap)) (hn : n ≤ 4) (h : L.length < n) :
    Calls Try.prog 78 #[.pointer (some ⟨R, o, none⟩), .int .i64 n] w fun e w' => e = .returned (.tuple #[.int .u32 0, .bool false]) ∧ w' = w := by
  have hm : L.length ≤ maxLen := Nat.le_trans hr.1 hr.2.1
  go_enter Try.func78, Try.ntmps78
  go_wp2_with fail
  refine (take_no R o n ao L.length cap w hc h hm).mono ?_
  rintro e w' ⟨rfl, rfl⟩
  go_wp2
  go_ret2
  exact ⟨rfl, rfl⟩

set_option maxHeartbeats 1000000 in
set_option maxRecDepth 100000 in
theorem number_yes (R o n lb : Nat) (ao : Option Addr) (cap : Nat) (L : List UInt8) (w : World) (hr : Rest w lb ao cap L) (hc : w.cell? ⟨R, o, none⟩ = some (.slice ao L.length cap)) (hf : w.frozen? ⟨R, o, none⟩ = false) (hne : R ≠ lb) (hn : n ≤ 4) (h : n ≤ L.length) :
    Calls Try.prog 78 #[.pointer (some ⟨R, o, none⟩), .int .i64 n] w fun e w' => e = .returned (.tuple #[.int .u32 ((Pu.le (L.take n) : Nat) : Int), .bool true]) ∧ w' = w.setCell ⟨R, o, none⟩ (.slice (cutA ao cap n) (L.length - n) (cap - n)) := by
  have Ht : Hid (Rest (w.setCell ⟨R, o, none⟩ (.slice (cutA ao cap n) (L.length - n) (cap - n))) lb ao n (L.take n)) := (hr.take n h).kept (Below.heap_setCell _ _ _ _ (fun e => hne e.symm))
  have Hl : Hid ((L.take n).length = n) := by simp [Hid]; omega
  go_enter Try.func78, Try.ntmps78
  go_wp2_with fail
  refine (take_yes R o n ao L.length cap w hc hf h hr.1 hr.2.1).mono ?_
  rintro e w' ⟨rfl, rfl⟩
  go_wp2_with fail
  have hcall := lowest_any lb ao n (L.take n) _ Ht.out (by rw [Hl.out]; exact hn)
  rw [Hl.out] at hcall
  refine hcall.mono ?_
  rintro e w' ⟨rfl, rfl⟩
  clear hcall
  go_wp2
  go_ret2
  exact ⟨rfl, rfl⟩

end Go.Proofs.Ytjobhlncllfdmaa
