/- Contracts of the program's Varint (any reader) and numberAt. -/
import Derived.Test.YtjobhlncllfdmaaProC
namespace Go.Proofs.Ytjobhlncllfdmaa
open Go.RowKit

set_option maxHeartbeats 1000000 in
set_option maxRecDepth 100000 in
theorem varintP_empty (R o cap : Nat) (ao : Option Addr) (w : World)
    (hc : w.cell? ⟨R, o, none⟩ = some (.slice ao 0 cap)) :
    Calls Try.prog 62 #[.pointer (some ⟨R, o, none⟩)] w fun e w' => e = .returned (.tuple #[.int .u32 0, .bool false]) ∧ w' = w := by
  go_enter Try.func62, Try.ntmps62
  go_wp2
  go_loop [4, 12] (fun n i => n = .int .u32 0 ∧ i = .int .i64 0) (fun _ _ => 0)
  case atStart => exact ⟨rfl, rfl⟩
  case round =>
    obtain ⟨rfl, rfl⟩ := hrel
    go_wp2
    go_ret2
    exact ⟨rfl, rfl⟩

theorem varintP_any (D : List UInt8) (a R o lb : Nat) (ao : Option Addr) (cap : Nat) (w : World) (ha : a ≤ D.length) (hr : Rest w lb ao cap (D.drop a))
    (hc : w.cell? ⟨R, o, none⟩ = some (.slice ao (D.length - a) cap)) (hf : w.frozen? ⟨R, o, none⟩ = false) :
    Calls Try.prog 62 #[.pointer (some ⟨R, o, none⟩)] w fun e w' => VAns D a R o ao (D.length - a) cap w e w' := by
  obtain ⟨h1, h2, h3⟩ := hr
  rw [List.length_drop] at h1
  have hempty : D.length - a = 0 → Calls Try.prog 62 #[.pointer (some ⟨R, o, none⟩)] w fun e w' => VAns D a R o ao (D.length - a) cap w e w' := by
    intro h0
    rw [h0] at hc ⊢
    refine (varintP_empty R o cap ao w hc).mono ?_
    rintro e w' ⟨rfl, rfl⟩
    refine VAns.no ?_
    rw [show Pu.vi D a = Pu.viGo D a (5 - 0) 0 0 from rfl]
    exact vi_out (k := 0) (m := 0) (by omega) rfl
  rcases h3 with h3 | ⟨off, rfl, hcell⟩
  · exact hempty (by have := congrArg List.length h3; simpa using this)
  · rw [List.length_drop] at hcell
    exact varintP_row D a R o lb off cap (D.length - a) w rfl ha h1 h2 hc hf (fun j hj => by rw [← byteAt_drop]; exact hcell j hj)

theorem i64_or_small (a b : Nat) (ha : a < 2 ^ 62) (hb : b < 2 ^ 62) : bits .or .i64 (a : Int) (b : Int) = ((a ||| b : Nat) : Int) :=
  (bits_nat .i64 62 (by decide) (fun n h0 h1 => IntWalk.i64_in n ⟨by omega, by omega⟩) a b ha hb).2

theorem and1 (b : Nat) (hb : b < 256) : bits .and .u8 (b : Int) 1 = ((b % 2 : Nat) : Int) := by
  have := u8_and_nat b 1 hb (by omega)
  rw [Nat.and_two_pow_sub_one_eq_mod b 1] at this
  exact this

theorem orn (x b s k : Nat) (hx : x < 2 ^ k) (hk : k ≤ 24) (hb : b < 256) :
    bits .or .i64 (x : Int) (wrap64 (wrap64 (bits .and .u8 ((b : Int) / 2 ^ s) 1) * 2 ^ k)) = ((x + 2 ^ k * (b / 2 ^ s % 2) : Nat) : Int) := by
  have e1 : (b : Int) / 2 ^ s = ((b / 2 ^ s : Nat) : Int) := by simp
  have h1 : b / 2 ^ s ≤ b := Nat.div_le_self _ _
  have h2 : 2 ^ k ≤ 16777216 := Nat.le_trans (Nat.pow_le_pow_right (by omega) hk) (by decide)
  have h5 : b / 2 ^ s % 2 < 2 := Nat.mod_lt _ (by omega)
  rw [e1, and1 _ (by omega), IntWalk.wrap64_in ((b / 2 ^ s % 2 : Nat) : Int) (by omega)]
  have e2 : ((b / 2 ^ s % 2 : Nat) : Int) * 2 ^ k = ((b / 2 ^ s % 2 * 2 ^ k : Nat) : Int) := by simp
  rw [e2]
  have h3 : b / 2 ^ s % 2 * 2 ^ k ≤ 1 * 2 ^ k := Nat.mul_le_mul_right _ (by omega)
  have h4 : b / 2 ^ s % 2 * 2 ^ k ≤ 16777216 := by omega
  rw [IntWalk.wrap64_in _ (by generalize b / 2 ^ s % 2 * 2 ^ k = z at *; omega), i64_or_small _ _ (by omega) (by omega), Nat.or_comm, or_shift _ _ _ hx, Nat.add_comm, Nat.mul_comm]

set_option maxHeartbeats 1000000 in
set_option maxRecDepth 100000 in
theorem numberAt_row (L : List UInt8) (lb o cap q W : Nat) (w : World) (hW : W ≤ 24) (hq : q + W ≤ 8 * L.length) (hL : L.length ≤ 1000000000000)
    (hrow : ∀ j, j < L.length → w.cell? ⟨lb, o + j, none⟩ = some (.int .u8 (Pu.byteAt L j : Int))) :
    Calls Try.prog 80 #[.slice (some ⟨lb, o, none⟩) L.length cap, .int .i64 q, .int .i64 W] w fun e w' => e = .returned (.int .i64 (Pu.nAt L q W)) ∧ w' = w := by
  have Hrow : Hid (∀ j, j < L.length → w.cell? ⟨lb, o + j, none⟩ = some (.int .u8 (Pu.byteAt L j : Int))) := hrow
  clear hrow
  go_enter Try.func80, Try.ntmps80
  go_wp2
  go_loop [7, 12] (fun n i => ∃ k x : Nat, k ≤ W ∧ Hid (x = Pu.nAt L q k) ∧ n = .int .i64 x ∧ i = .int .i64 k) (fun _ i => W - (intOf i).toNat)
  case atStart => exact ⟨0, 0, Nat.zero_le _, rfl, rfl, rfl⟩
  case round =>
    obtain ⟨k, x, hk, Hx, rfl, rfl⟩ := hrel
    by_cases hkW : k < W
    · have HB : ∃ b, Hid (b = Pu.byteAt L ((q + k) / 8)) ∧ b < 256 ∧ w.cell? ⟨lb, o + (q + k) / 8, none⟩ = some (.int .u8 (b : Int)) := ⟨_, rfl, Pu.byteAt_lt _ _, Hrow.out _ (by omega)⟩
      obtain ⟨b, HB, hb, hcb⟩ := HB
      have hor := orn x b ((q + k) % 8) k (by rw [Hx.out]; exact Pu.nAt_lt L q k) (by omega) hb
      have HN : Hid (x + 2 ^ k * (b / 2 ^ ((q + k) % 8) % 2) = Pu.nAt L q (k + 1)) := by
        rw [Hid, Pu.nAt, Hx.out, HB.out]; rfl
      obtain ⟨y, hy⟩ : ∃ y, y = x + 2 ^ k * (b / 2 ^ ((q + k) % 8) % 2) := ⟨_, rfl⟩
      rw [← hy] at hor
      have HN2 : Hid (y = Pu.nAt L q (k + 1)) := by rw [Hid, hy]; exact HN.out
      clear hy HN
      go_wp2
      go_round
      case rel => exact ⟨k + 1, y, by omega, HN2, by rw [← hor], by go_num⟩
      case measure => simp [intOf]; omega
    · obtain rfl : k = W := by omega
      go_wp2
      go_ret
      exact ⟨ret_int (by rw [Hx.out]), rfl⟩

set_option maxHeartbeats 1000000 in
theorem numberAt_zero (v : Value) (q : Int) (w : World) :
    Calls Try.prog 80 #[v, .int .i64 q, .int .i64 0] w fun e w' => e = .returned (.int .i64 0) ∧ w' = w := by
  go_enter Try.func80, Try.ntmps80
  go_wp2
  go_loop [7, 12] (fun n i => n = .int .i64 0 ∧ i = .int .i64 0) (fun _ _ => 0)
  case atStart => exact ⟨rfl, rfl⟩
  case round =>
    obtain ⟨rfl, rfl⟩ := hrel
    go_wp2
    go_ret
    exact ⟨rfl, rfl⟩

theorem numberAt_any (L : List UInt8) (lb : Nat) (ao : Option Addr) (cap q W : Nat) (w : World) (hW : W ≤ 24) (hq : q + W ≤ 8 * L.length) (hL : L.length ≤ 1000000000000) (hr : Rest w lb ao cap L) :
    Calls Try.prog 80 #[.slice ao L.length cap, .int .i64 q, .int .i64 W] w fun e w' => e = .returned (.int .i64 (Pu.nAt L q W)) ∧ w' = w := by
  obtain ⟨_, _, h3⟩ := hr
  rcases h3 with rfl | ⟨o, rfl, hc⟩
  · have : W = 0 := by simp at hq; omega
    subst this
    exact numberAt_zero _ _ w
  · exact numberAt_row L lb o cap q W w hW hq hL hc

end Go.Proofs.Ytjobhlncllfdmaa
